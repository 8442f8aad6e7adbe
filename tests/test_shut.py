"""Promise 11, shut: the par of two neighbouring conclusions stands in their place."""

import unittest

from tests.lines import FAR, alternating, ask, ask_of, chain, flat, form_behind, form_of, linked, neighbours, refused

FOUR = "a, ~a*b, ~b*c, ~c ; ; 0-1 2-3 4-5"
NOT_PLACES = (-1, -2, -FAR, FAR)


class Refusals(unittest.TestCase):
    def assert_refused(self, text, place, number):
        self.assertEqual(refused(text, ("shut", place)), number, (text, place))

    def test_first_of_a_line(self):
        calls = [("shut", place) for place in (-1, 1, 2, 0, 0, -1, 1)]
        self.assertEqual(ask(*calls), [[-4], [-4], [-4], [1], [-4], [-4], [-4]])

    def test_no_conclusion(self):
        for place in (4, 5) + NOT_PLACES:
            self.assert_refused(FOUR, place, -4)
        for place in (0, 1) + NOT_PLACES:
            self.assert_refused(";;", place, -4)

    def test_the_last_conclusion(self):
        self.assert_refused(FOUR, 3, -4)
        self.assert_refused("a|~a ; ; 0-1", 0, -4)

    def test_cuts_are_no_conclusions(self):
        self.assert_refused("a, ~a ; a ; 0-3 1-2", 1, -4)
        self.assert_refused("; a, b ; 0-1 2-3", 0, -4)
        self.assert_refused("a|~a ; b ; 0-1 2-3", 0, -4)

    def test_sixty_one_atoms(self):
        for first, second in ((31, 30), (30, 31), (60, 1), (1, 60), (60, 60)):
            self.assert_refused(alternating(flat(first), flat(second)), 0, -6)

    def test_depth_forty_one(self):
        for first, second in ((40, 1), (1, 40), (40, 2), (2, 40), (40, 20), (20, 40)):
            for sign in "*|":
                self.assert_refused(alternating(chain(sign, first), chain(sign, second)), 0, -6)

    def test_atoms_and_depth(self):
        self.assert_refused(alternating(chain("|", 40), chain("*", 40)), 0, -6)

    def test_at_each_place(self):
        text = alternating("?", chain("|", 40), "?", flat(59), "?")
        for place, number in ((0, -6), (1, -6), (4, -4)):
            self.assert_refused(text, place, number)
        for place in (2, 3):
            self.assertEqual(ask_of(text, ("shut", place), ("shut", 2)), [[4], [-6]])

    def test_order(self):
        text = alternating("?", "?", chain("|", 40))
        self.assert_refused(text, 1, -6)
        self.assert_refused(text, 2, -4)


class Shuts(unittest.TestCase):
    def assert_shut(self, text, place, count, form):
        self.assertEqual(form_behind(text, ("shut", place)), [[count], form])
        told = form_behind(text, ("shut", place), ("open", place))
        self.assertEqual(told, [[count], [count + 1], form_of(text)])

    def test_first_middle_last(self):
        self.assert_shut(FOUR, 0, 3, "a|(~a*b), ~b*c, ~c ;  ; 0-1 2-3 4-5")
        self.assert_shut(FOUR, 1, 3, "a, (~a*b)|(~b*c), ~c ;  ; 0-1 2-3 4-5")
        self.assert_shut(FOUR, 2, 3, "a, ~a*b, (~b*c)|~c ;  ; 0-1 2-3 4-5")

    def test_of_atoms(self):
        self.assert_shut("a, ~a ; ; 0-1", 0, 1, "a|~a ;  ; 0-1")

    def test_of_pars(self):
        self.assert_shut("a|b, ~a|~b ; ; 0-2 1-3", 0, 1, "(a|b)|~a|~b ;  ; 0-2 1-3")
        self.assert_shut("a, b|~a|~b ; ; 0-2 1-3", 0, 1, "a|b|~a|~b ;  ; 0-2 1-3")
        self.assert_shut("a|b|~a, ~b ; ; 0-2 1-3", 0, 1, "(a|b|~a)|~b ;  ; 0-2 1-3")

    def test_shut_again(self):
        told = form_behind(FOUR, ("shut", 0), ("shut", 0), ("shut", 0), ("shut", 0))
        self.assertEqual(told, [[3], [2], [1], [-4], "((a|(~a*b))|(~b*c))|~c ;  ; 0-1 2-3 4-5"])
        told = form_behind(FOUR, ("shut", 2), ("shut", 1), ("shut", 0), ("open", 0))
        self.assertEqual(told, [[3], [2], [1], [2], "a, (~a*b)|(~b*c)|~c ;  ; 0-1 2-3 4-5"])

    def test_with_cuts(self):
        self.assert_shut("a, ~a ; a, b|c ; 0-3 1-2 4-6 5-7", 0, 1, "a|~a ; a, b|c ; 0-3 1-2 4-6 5-7")

    def test_just_sixty_atoms(self):
        for first, second in ((30, 30), (29, 31), (31, 29), (59, 1), (1, 59), (58, 2)):
            told = ask_of(alternating(flat(first), flat(second)), ("shut", 0), "size")
            self.assertEqual(told, [[1], [1, 0, 60, 30, 58, 1, 119]], (first, second))

    def test_just_depth_forty(self):
        for first, second in ((39, 1), (1, 39), (39, 21), (21, 39), (30, 30)):
            for sign in "*|":
                text = alternating(chain(sign, first), chain(sign, second))
                self.assertEqual(ask_of(text, ("shut", 0)), [[1]], (first, second))
        text = alternating("?", chain("|", 38), "?", "?", "?")
        self.assertEqual(ask_of(text, ("shut", 0), ("shut", 0), ("shut", 0)), [[4], [3], [-6]])

    def test_twenty_conclusions(self):
        text = "%s ; ; %s" % (", ".join(["a", "~a"] * 10), neighbours(20))
        for place in (0, 7, 18):
            told = form_behind(text, ("shut", place), ("open", place))
            self.assertEqual(told, [[19], [20], form_of(text)])
        self.assertEqual(refused(text, ("shut", 19)), -4)
        self.assertEqual(ask_of(text, *[("shut", 0)] * 20), [[count] for count in range(19, 0, -1)] + [[-4]])

    def test_test_and_bad_behind_it(self):
        told = ask_of("a, b, ~a|~b ; ; 0-2 1-3", "bad", ("shut", 0), "bad", "test", "draw", ("switch", [1, 0]))
        self.assertEqual(told, [[1, 0, 0, 2], [2], [2, 0, 0, 0, 2], [0], [0], [0, 2]])
        told = ask_of(FOUR, ("shut", 1), "test", "bad", "draw", ("switch", [0]), ("switch", [1]), ("switch", []))
        self.assertEqual(told, [[3], [1], [-4], [1], [0, 1], [0, 1], [-1]])

    def test_more_than_ten_pars_behind_it(self):
        names = ["a%d" % place for place in range(11)]
        text = linked("%s, ~(%s), b*~b" % ("*".join(names), "*".join(names)))
        told = ask_of(text, "test", "draw", ("shut", 1), "test", "bad", "draw", ("open", 1), "test")
        self.assertEqual(told, [[0], [0], [2], [-7], [-7], [0], [3], [0]])


if __name__ == "__main__":
    unittest.main()
