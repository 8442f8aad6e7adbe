"""Promise 9, swap: the partners of two leaves are exchanged."""

import unittest

from tests.lines import FAR, ask, ask_of, form_behind, refused

PLAIN = "a*b, ~a|~b ; ; 0-2 1-3"
# The leaves are a 0, a 1, ~a 2, ~a 3, b 4, ~b 5.
SAME = "a, a, ~a*~a, b, ~b ; ; 0-2 1-3 4-5"
NOT_LEAVES = (-1, -FAR, FAR)


class Refusals(unittest.TestCase):
    def assert_refused(self, text, leaf, other, number):
        self.assertEqual(refused(text, ("swap", leaf, other)), number, (text, leaf, other))

    def test_no_leaf(self):
        for missing in (6, 7) + NOT_LEAVES:
            for leaf in range(6):
                self.assert_refused(SAME, missing, leaf, -4)
                self.assert_refused(SAME, leaf, missing, -4)
            self.assert_refused(SAME, missing, missing, -4)
            self.assert_refused(SAME, missing, -missing - 1, -4)

    def test_no_leaf_at_all(self):
        self.assert_refused(";;", 0, 0, -4)
        self.assert_refused(";;", 0, 1, -4)
        self.assert_refused(";;", -1, -1, -4)

    def test_other_names(self):
        self.assert_refused(SAME, 0, 4, -3)
        self.assert_refused(SAME, 4, 1, -3)
        self.assert_refused(SAME, 5, 2, -3)
        self.assert_refused(PLAIN, 0, 1, -3)
        self.assert_refused("a, ~a, aa, ~aa, a1, ~a1 ; ; 0-1 2-3 4-5", 0, 2, -3)
        self.assert_refused("a, ~a, aa, ~aa, a1, ~a1 ; ; 0-1 2-3 4-5", 3, 5, -3)

    def test_plain_and_turned(self):
        self.assert_refused(SAME, 0, 2, -3)
        self.assert_refused(SAME, 0, 3, -3)
        self.assert_refused(SAME, 3, 0, -3)
        self.assert_refused(SAME, 4, 5, -3)

    def test_other_name_and_turned(self):
        self.assert_refused(SAME, 0, 5, -3)
        self.assert_refused(SAME, 2, 4, -3)

    def test_leaves_of_cuts(self):
        text = "a, ~a ; a ; 0-3 1-2"
        self.assert_refused(text, 0, 3, -3)
        self.assert_refused(text, 2, 3, -3)
        self.assert_refused(text, 2, 4, -4)


class Swaps(unittest.TestCase):
    def test_a_leaf_with_itself(self):
        for leaf in range(6):
            told = form_behind(SAME, ("swap", leaf, leaf), ("partner", leaf))
            self.assertEqual(told[0], [0])
            self.assertEqual(told[1], [(2, 3, 0, 1, 5, 4)[leaf]])
            self.assertEqual(told[2], "a, a, ~a*~a, b, ~b ;  ; 0-2 1-3 4-5")
        self.assertEqual(ask(("swap", 0, 0), ("swap", 1, 1), ("partner", 0)), [[0], [0], [1]])

    def assert_swapped(self, text, leaf, other, form, partners):
        for call in (("swap", leaf, other), ("swap", other, leaf)):
            told = form_behind(text, call, *[("partner", place) for place in range(len(partners))])
            self.assertEqual(told[0], [1], call)
            self.assertEqual(told[1:-1], [[partner] for partner in partners], call)
            self.assertEqual(told[-1], form, call)

    def test_both_plain(self):
        self.assert_swapped(SAME, 0, 1, "a, a, ~a*~a, b, ~b ;  ; 0-3 1-2 4-5", [3, 2, 1, 0, 5, 4])

    def test_both_turned(self):
        self.assert_swapped(SAME, 2, 3, "a, a, ~a*~a, b, ~b ;  ; 0-3 1-2 4-5", [3, 2, 1, 0, 5, 4])

    def test_partners_that_lie_about(self):
        text = "~a, a, ~a, a, ~a, a ; ; 0-1 2-5 3-4"
        self.assert_swapped(text, 0, 2, "~a, a, ~a, a, ~a, a ;  ; 0-5 1-2 3-4", [5, 2, 1, 4, 3, 0])
        self.assert_swapped(text, 3, 5, "~a, a, ~a, a, ~a, a ;  ; 0-1 2-3 4-5", [1, 0, 3, 2, 5, 4])
        self.assert_swapped(text, 4, 0, "~a, a, ~a, a, ~a, a ;  ; 0-3 1-4 2-5", [3, 4, 5, 0, 1, 2])

    def test_leaves_of_cuts(self):
        self.assert_swapped("a, ~a ; a ; 0-3 1-2", 0, 2, "a, ~a ; a ; 0-1 2-3", [1, 0, 3, 2])
        self.assert_swapped("; a, ~a ; 0-1 2-3", 1, 2, " ; a, ~a ; 0-2 1-3", [2, 3, 0, 1])

    def test_twice_brings_back(self):
        for leaf, other in ((0, 1), (2, 3)):
            told = form_behind(SAME, ("swap", leaf, other), ("swap", leaf, other))
            self.assertEqual(told, [[1], [1], "a, a, ~a*~a, b, ~b ;  ; 0-2 1-3 4-5"])
            told = form_behind(SAME, ("swap", leaf, other), ("swap", other, leaf))
            self.assertEqual(told, [[1], [1], "a, a, ~a*~a, b, ~b ;  ; 0-2 1-3 4-5"])
        told = form_behind(SAME, ("swap", 0, 1), ("swap", 2, 3))
        self.assertEqual(told, [[1], [1], "a, a, ~a*~a, b, ~b ;  ; 0-2 1-3 4-5"])

    def test_draw_behind_it(self):
        # With the links 0-1 the tensor closes a circle.
        told = ask_of("a*~a, a, ~a ; ; 0-3 1-2", "draw", "test", ("swap", 0, 2), "draw", "test", "bad",
                      ("swap", 1, 3), "draw", "test")
        self.assertEqual(told, [[1], [1], [1], [0], [0], [0, 1, 2], [1], [1], [1]])

    def test_size_and_switch_behind_it(self):
        told = ask_of("(a|~a)*b, a, ~a, ~b ; ; 0-1 2-5 3-4", "size", ("switch", [0]), "test", ("swap", 0, 3), "size",
                      ("switch", [0]), ("switch", [1]), "bad")
        self.assertEqual(told[0], [4, 0, 6, 3, 1, 1, 8])
        self.assertEqual(told[1:4], [[0, 2], [0], [1]])
        self.assertEqual(told[4], told[0])
        self.assertEqual(told[5:], [[0, 2], [0, 2], [1, 0, 0, 2]])


if __name__ == "__main__":
    unittest.main()
