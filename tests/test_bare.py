"""Promise 12, bare: the first cut becomes a tensor behind the conclusions."""

import unittest

from tests.lines import alternating, ask, ask_of, chain, flat, form_behind, halves, linked, refused


def cut_of(shape, conclusions="", more=""):
    """A cut of a shape as for alternating, each of its leaves linked with the dual's."""
    cut = alternating(shape).split(" ;")[0]
    if shape.count("?") % 2:
        cut = cut[:cut.rindex(",")]
    return linked(conclusions, cut + more)


class Refusals(unittest.TestCase):
    def assert_refused(self, text, number, more=()):
        self.assertEqual(refused(text, "bare", more), number, text)

    def test_without_a_cut(self):
        self.assertEqual(ask("bare"), [[-4]])
        self.assert_refused("a*b, ~a|~b ; ; 0-2 1-3", -4)
        self.assert_refused(";;", -4)
        self.assert_refused("a, ~a ; a ; 0-3 1-2", -4, ["bare"])

    def test_more_than_thirty_atoms(self):
        for count in (31, 32, 45, 60):
            self.assert_refused(cut_of(flat(count)), -6)

    def test_depth_forty(self):
        # Forty deep are at least forty atoms: atoms and depth are refused alike.
        for sign in "*|":
            self.assert_refused(cut_of(chain(sign, 40)), -6)
            self.assert_refused(cut_of(chain(sign, 39)), -6)

    def test_just_in_bounds(self):
        for shape in (flat(30), flat(29), chain("*", 30), chain("|", 30)):
            self.assertEqual(ask_of(cut_of(shape), "bare"), [[0]])

    def test_the_first_cut_alone_counts(self):
        great = ", " + "*".join(["b"] * 31)
        self.assertEqual(ask_of(cut_of(flat(3), "", great), "bare", "bare"), [[1], [-6]])
        self.assert_refused(cut_of(flat(31), "", ", b"), -6)

    def test_twenty_conclusions(self):
        self.assert_refused(cut_of("?", ", ".join(["b*~b"] * 20)), -5)
        self.assertEqual(ask_of(cut_of("?", ", ".join(["b*~b"] * 19)), "bare"), [[0]])
        self.assert_refused(cut_of("?", ", ".join(["b*~b"] * 19), ", c"), -5, ["bare"])

    def test_order(self):
        twenty = ", ".join(["b*~b"] * 20)
        self.assert_refused(linked(twenty), -4)
        self.assert_refused(cut_of(flat(31), twenty), -6)
        self.assert_refused(cut_of(flat(30), twenty), -5)


class Bares(unittest.TestCase):
    def test_an_atom(self):
        self.assertEqual(form_behind("a, ~a ; a ; 0-3 1-2", "bare"), [[0], "a, ~a, a*~a ;  ; 0-3 1-2"])
        self.assertEqual(form_behind("a, ~a ; ~a ; 0-2 1-3", "bare"), [[0], "a, ~a, ~a*a ;  ; 0-2 1-3"])

    def test_tensors_and_pars(self):
        self.assertEqual(form_behind("; a*b ; 0-2 1-3", "bare"), [[0], "(a*b)*(~a|~b) ;  ; 0-2 1-3"])
        self.assertEqual(form_behind("; a|(b*c) ; " + halves(6), "bare"),
                         [[0], "(a|(b*c))*~a*(~b|~c) ;  ; 0-3 1-4 2-5"])
        self.assertEqual(form_behind("; a -o b ; 0-2 1-3", "bare"), [[0], "(~a|b)*a*~b ;  ; 0-2 1-3"])

    def test_several_cuts(self):
        text = "a, ~a ; a*b, c, a ; 0-9 1-2 3-5 4-8 6-7"
        told = form_behind(text, "bare")
        self.assertEqual(told, [[2], "a, ~a, (a*b)*(~a|~b) ; c, a ; 0-9 1-2 3-5 4-8 6-7"])
        told = form_behind(text, "bare", "bare")
        self.assertEqual(told, [[2], [1], "a, ~a, (a*b)*(~a|~b), c*~c ; a ; 0-9 1-2 3-5 4-8 6-7"])
        told = form_behind(text, "bare", "bare", "bare", "bare")
        self.assertEqual(told, [[2], [1], [0], [-4], "a, ~a, (a*b)*(~a|~b), c*~c, a*~a ;  ; 0-9 1-2 3-5 4-8 6-7"])

    def test_leaves_keep_their_numbers(self):
        text = "a, ~a ; a*b, c, a ; 0-9 1-2 3-5 4-8 6-7"
        look = [("partner", leaf) for leaf in range(10)]
        told = ask_of(text, *look, "bare", *look, "bare", *look, "bare", *look)
        self.assertEqual(told[:10], [[9], [2], [1], [5], [8], [3], [7], [6], [4], [0]])
        for start in (11, 22, 33):
            self.assertEqual(told[start:start + 10], told[:10])

    def test_twenty_cuts(self):
        text = linked("", ", ".join(["a"] * 20))
        told = ask_of(text, *["bare"] * 21, "size")
        self.assertEqual(told, [[count] for count in range(19, -1, -1)] + [[-4], [20, 0, 40, 20, 20, 0, 60]])

    def test_size_behind_it(self):
        told = ask_of("a, ~a ; a*b, c, a ; 0-9 1-2 3-5 4-8 6-7", "size", "bare", "size", "bare", "size")
        self.assertEqual(told[::2], [[2, 3, 10, 5, 1, 1, 12], [3, 2, 10, 5, 2, 1, 13], [4, 1, 10, 5, 3, 1, 14]])

    def test_test_behind_it(self):
        told = ask_of("a, ~a ; a ; 0-3 1-2", "bare", "test", "bad", "draw")
        self.assertEqual(told, [[0], [1], [-4], [1]])
        told = ask_of("a*b, ~a|~b ; a*b ; 0-6 1-7 2-4 3-5", "bare", "test", "draw", ("switch", [0, 1]))
        self.assertEqual(told, [[0], [1], [1], [0, 1]])

    def test_bad_behind_it(self):
        told = ask_of("; a ; 0-1", "bad", "bare", "bad", "draw", ("switch", []))
        self.assertEqual(told, [[0, 1, 1], [0], [0, 1, 1], [0], [1, 1]])
        told = ask_of("a, ~a ; a ; 0-1 2-3", "bad", "bare", "bad", "draw")
        self.assertEqual(told, [[0, 1, 2], [0], [0, 1, 2], [0]])

    def test_pars_get_no_other_order(self):
        told = ask_of("; a|b, c|d ; 0-2 1-3 4-6 5-7", ("switch", [0, 1]), "bad", "bare", ("switch", [0, 1]), "bad")
        self.assertEqual(told, [[1, 2], [2, 0, 0, 1, 2], [1], [1, 2], [2, 0, 0, 1, 2]])


if __name__ == "__main__":
    unittest.main()
