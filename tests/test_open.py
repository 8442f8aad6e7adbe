"""Promise 10, open: the two formulas that a par is of stand in its place."""

import unittest

from tests.lines import FAR, ask, ask_of, form_behind, linked, neighbours, refused

THREE = "a|b, ~a*(c|~c), ~b|d|~d ; ; 0-2 1-5 3-4 6-7"
NOT_PLACES = (-1, -2, -3, -FAR, FAR)


def conclusions(count, last):
    """So many conclusions, of a*~a, and the last one."""
    return linked(", ".join(["a*~a"] * (count - 1) + [last]))


class Refusals(unittest.TestCase):
    def assert_refused(self, text, place, number):
        self.assertEqual(refused(text, ("open", place)), number, (text, place))

    def test_first_of_a_line(self):
        calls = [("open", place) for place in (-1, 0, 1, 2)]
        self.assertEqual(ask(*calls), [[-4], [-3], [-3], [-4]])

    def test_no_conclusion(self):
        for place in (3, 4) + NOT_PLACES:
            self.assert_refused(THREE, place, -4)
        for place in (0, 1) + NOT_PLACES:
            self.assert_refused(";;", place, -4)

    def test_cuts_are_no_conclusions(self):
        self.assert_refused("a, ~a ; b|c ; 0-1 2-4 3-5", 2, -4)
        self.assert_refused("; b|c ; 0-2 1-3", 0, -4)

    def test_no_par(self):
        self.assert_refused(THREE, 1, -3)
        self.assert_refused("a*b, ~a|~b ; ; 0-2 1-3", 0, -3)
        self.assert_refused("a*(b|c), ~a, ~b, ~c ; ; 0-3 1-4 2-5", 0, -3)
        self.assert_refused("a*(b|c), ~a, ~b, ~c ; ; 0-3 1-4 2-5", 1, -3)

    def test_twenty_conclusions(self):
        text = conclusions(20, "a|~a")
        self.assert_refused(text, 19, -5)
        self.assertEqual(ask_of(conclusions(19, "a|~a"), ("open", 18)), [[20]])
        self.assertEqual(ask_of(conclusions(18, "a|~a"), ("open", 17)), [[19]])

    def test_reached_by_opening(self):
        text = conclusions(19, "a|~a|b|~b")
        self.assertEqual(refused(text, ("open", 19), [("open", 18)]), -5)

    def test_order(self):
        text = conclusions(20, "a|~a")
        for place in (20, 21) + NOT_PLACES:
            self.assert_refused(text, place, -4)
        self.assert_refused(text, 0, -3)
        self.assert_refused(text, 18, -3)
        atoms = "%s ; ; %s" % (", ".join(["a", "~a"] * 10), neighbours(20))
        for place in (0, 19):
            self.assert_refused(atoms, place, -3)
        self.assert_refused(atoms, 20, -4)


class Opens(unittest.TestCase):
    def assert_opened(self, text, place, count, form):
        self.assertEqual(form_behind(text, ("open", place)), [[count], form])

    def test_first_middle_last(self):
        self.assert_opened(THREE, 0, 4, "a, b, ~a*(c|~c), ~b|d|~d ;  ; 0-2 1-5 3-4 6-7")
        self.assert_opened(THREE, 2, 4, "a|b, ~a*(c|~c), ~b, d|~d ;  ; 0-2 1-5 3-4 6-7")
        text = "a*b, (~a*c)|(d|~b), ~c*~d ; ; 0-2 1-5 3-6 4-7"
        self.assert_opened(text, 1, 4, "a*b, ~a*c, d|~b, ~c*~d ;  ; 0-2 1-5 3-6 4-7")

    def test_the_only_conclusion(self):
        self.assert_opened("a|~a ; ; 0-1", 0, 2, "a, ~a ;  ; 0-1")
        self.assert_opened("a -o b -o a*b ; ; 0-2 1-3", 0, 2, "~a, ~b|(a*b) ;  ; 0-2 1-3")

    def test_halves_of_many_shapes(self):
        self.assert_opened("((a|b)*c)|~a, ~b, ~c ; ; 0-3 1-4 2-5", 0, 4, "(a|b)*c, ~a, ~b, ~c ;  ; 0-3 1-4 2-5")
        self.assert_opened("(((a|b)|c)|d)|~a, ~b, ~c, ~d ; ; 0-4 1-5 2-6 3-7", 0, 5,
                           "((a|b)|c)|d, ~a, ~b, ~c, ~d ;  ; 0-4 1-5 2-6 3-7")
        self.assert_opened("(a*b*c)|(~a*~b*~c) ; ; 0-3 1-4 2-5", 0, 2, "a*b*c, ~a*~b*~c ;  ; 0-3 1-4 2-5")

    def test_a_par_of_pars_opened_again(self):
        text = "(a|b)|(~a|~b) ; ; 0-2 1-3"
        told = form_behind(text, ("open", 0), ("open", 0), ("open", 2), ("open", 0), ("open", 4))
        self.assertEqual(told, [[2], [3], [4], [-3], [-4], "a, b, ~a, ~b ;  ; 0-2 1-3"])
        told = form_behind(text, ("open", 0), ("open", 1), ("open", 1), ("open", 0))
        self.assertEqual(told, [[2], [3], [-3], [4], "a, b, ~a, ~b ;  ; 0-2 1-3"])

    def test_with_cuts(self):
        self.assert_opened("a|~a ; a, b|c ; 0-3 1-2 4-6 5-7", 0, 2, "a, ~a ; a, b|c ; 0-3 1-2 4-6 5-7")
        told = ask_of("a|~a ; a ; 0-3 1-2", ("open", 0), ("partner", 0), ("partner", 1), ("partner", 2), ("partner", 3),
                      "size", "test")
        self.assertEqual(told, [[2], [3], [2], [1], [0], [2, 1, 4, 2, 0, 0, 4], [1]])

    def test_as_deep_and_great_as_can_be(self):
        forty = "|".join(["a", "~a"] * 20)
        told = form_behind(linked(forty), *[("open", place) for place in range(20)])
        self.assertEqual(told[:20], [[count] for count in range(2, 21)] + [[-5]])
        self.assertEqual(told[20], "%s, %s ;  ; %s" % (", ".join(["a", "~a"] * 9 + ["a"]),
                                                       "|".join(["~a"] + ["a", "~a"] * 10), neighbours(40)))
        left = "(" * 38 + "a" + "".join("|%sa)" % ("~" if place % 2 else "") for place in range(1, 39)) + "|~a"
        told = ask_of(linked(left), *[("open", 0)] * 20)
        self.assertEqual(told, [[count] for count in range(2, 21)] + [[-5]])

    def test_test_behind_it(self):
        # Eleven pars are too many for test, ten are not.
        names = ["a%d" % place for place in range(12)]
        text = linked("%s, ~(%s)" % ("*".join(names), "*".join(names)))
        told = ask_of(text, "test", "bad", "draw", ("open", 1), "test", "bad", "draw")
        self.assertEqual(told, [[-7], [-7], [1], [3], [1], [-4], [1]])

    def test_bad_behind_it(self):
        told = ask_of("a|b, ~a|~b ; ; 0-2 1-3", ("open", 0), "bad", "size", ("switch", [1]), ("open", 2), "bad")
        self.assertEqual(told, [[3], [1, 0, 0, 2], [3, 0, 4, 2, 0, 1, 5], [0, 2], [4], [0, 0, 2]])


if __name__ == "__main__":
    unittest.main()
