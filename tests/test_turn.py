"""Promise 13, turn: the first conclusion becomes the last one."""

import unittest

from tests.lines import ask, ask_of, form_behind, form_of, linked, neighbours, refused

# The leaves are a 0, b 1, c 2 | ~a 3 | d 4, ~d 5 | ~b 6, ~c 7.
DIFFERENT = "a*b*c, ~a, d|~d, ~b|~c ; ; 0-3 1-6 2-7 4-5"


class Turn(unittest.TestCase):
    def assert_turned(self, text, leaves, form):
        self.assertEqual(form_behind(text, "turn"), [[leaves], form])

    def assert_all_round(self, text, leaves):
        told = form_behind(text, *["turn"] * len(leaves))
        self.assertEqual(told, [[count] for count in leaves] + [form_of(text)])

    def test_first_of_a_line(self):
        told = ask("turn", "form", ("partner", 0), "turn", "form")
        self.assertEqual(told[0], [1])
        self.assertEqual(bytes(told[1][1:]), b"~a, a ;  ; 0-1")
        self.assertEqual(told[2:4], [[1], [1]])
        self.assertEqual(bytes(told[4][1:]), b"a, ~a ;  ; 0-1")

    def test_without_conclusions(self):
        self.assertEqual(refused(";;", "turn"), -4)
        self.assertEqual(refused("; a*b, c ; 0-2 1-3 4-5", "turn"), -4)

    def test_one_conclusion(self):
        self.assert_turned("a|~a ; ; 0-1", 2, "a|~a ;  ; 0-1")
        self.assert_turned("(a*b)|~b|~a ; ; 0-3 1-2", 4, "(a*b)|~b|~a ;  ; 0-3 1-2")
        self.assert_turned("a|~a ; a ; 0-3 1-2", 2, "a|~a ; a ; 0-3 1-2")

    def test_links_between_the_first_and_others(self):
        self.assert_turned("a*b, ~a|~b ; ; 0-2 1-3", 2, "~a|~b, a*b ;  ; 0-2 1-3")
        self.assert_turned("a*b, ~a, ~b ; ; 0-2 1-3", 2, "~a, ~b, a*b ;  ; 0-2 1-3")
        self.assert_turned("a*b, ~b, ~a ; ; 0-3 1-2", 2, "~b, ~a, a*b ;  ; 0-3 1-2")
        self.assert_turned("a, ~b, ~a*b ; ; 0-2 1-3", 1, "~b, ~a*b, a ;  ; 0-2 1-3")

    def test_links_within_the_first(self):
        self.assert_turned("a|~a, b, ~b ; ; 0-1 2-3", 2, "b, ~b, a|~a ;  ; 0-1 2-3")
        self.assert_turned("(a|~a)*b, ~b, c, ~c ; ; 0-1 2-3 4-5", 3, "~b, c, ~c, (a|~a)*b ;  ; 0-5 1-2 3-4")

    def test_links_among_the_others(self):
        self.assert_turned(DIFFERENT, 3, "~a, d|~d, ~b|~c, a*b*c ;  ; 0-5 1-2 3-6 4-7")

    def test_turned_again(self):
        told = form_behind(DIFFERENT, "turn", "turn")
        self.assertEqual(told, [[3], [1], "d|~d, ~b|~c, a*b*c, ~a ;  ; 0-1 2-5 3-6 4-7"])
        told = form_behind(DIFFERENT, "turn", "turn", "turn")
        self.assertEqual(told, [[3], [1], [2], "~b|~c, a*b*c, ~a, d|~d ;  ; 0-3 1-4 2-5 6-7"])

    def test_partners(self):
        told = ask_of(DIFFERENT, "turn", *[("partner", leaf) for leaf in range(9)])
        self.assertEqual(told, [[3], [5], [2], [1], [6], [7], [0], [3], [4], [-4]])

    def test_links_to_leaves_of_cuts(self):
        self.assert_turned("a, ~a ; a ; 0-3 1-2", 1, "~a, a ; a ; 0-2 1-3")
        self.assert_turned("a*b, ~b, ~a ; a, c ; 0-5 1-2 3-4 6-7", 2, "~b, ~a, a*b ; a, c ; 0-3 1-4 2-5 6-7")
        told = ask_of("a*b, ~b, ~a ; a, c ; 0-5 1-2 3-4 6-7", "turn", *[("partner", leaf) for leaf in range(8)])
        self.assertEqual(told, [[2], [3], [4], [5], [0], [1], [2], [7], [6]])

    def test_same_formulas_with_other_links(self):
        # Atom by atom the links go along, though the formulas look the same.
        self.assert_turned("a, a, ~a, ~a ; ; 0-2 1-3", 1, "a, ~a, ~a, a ;  ; 0-2 1-3")
        self.assert_turned("a|~a, a|~a ; ; 0-3 1-2", 2, "a|~a, a|~a ;  ; 0-3 1-2")
        self.assert_turned("a|~a, a|~a, a|~a ; ; 0-3 1-2 4-5", 2, "a|~a, a|~a, a|~a ;  ; 0-5 1-4 2-3")

    def test_all_round(self):
        self.assert_all_round("a, ~a ; ; 0-1", [1, 1])
        self.assert_all_round(DIFFERENT, [3, 1, 2, 2])
        self.assert_all_round("a*b, ~b, ~a ; a, c ; 0-5 1-2 3-4 6-7", [2, 1, 1])
        self.assert_all_round("a|~a ; ; 0-1", [2])
        self.assert_all_round("%s ; ; %s" % (", ".join(["a", "~a|b|~b"] * 10), neighbours(40)), [1, 3] * 10)
        self.assert_all_round(linked(", ".join(["a|~a|b", "~b", "c*c*c*c", "~c", "~c|~c", "~c"]), "a*b, c"),
                              [3, 1, 4, 1, 2, 1])

    def test_pars_are_numbered_anew(self):
        # The par of a and b has the bad side, at first as par 0, then as par 1.
        text = "(a|b)*c, ~a*(d|~d), ~b*~c ; ; 0-3 1-6 2-7 4-5"
        told = ask_of(text, "bad", "turn", "bad", ("switch", [1, 0]), ("switch", [0, 1]), "turn", "turn", "bad")
        self.assertEqual(told, [[2, 1, 0, 1, 2], [3], [2, 0, 1, 1, 2], [0, 1], [1, 2], [3], [2], [2, 1, 0, 1, 2]])

    def test_nets_stay_nets(self):
        told = ask_of("a*b, ~a|~b ; a*b ; 0-6 1-7 2-4 3-5", "turn", "test", "bad", "draw", "size")
        self.assertEqual(told, [[2], [1], [-4], [1], [2, 1, 8, 4, 2, 2, 12]])


if __name__ == "__main__":
    unittest.main()
