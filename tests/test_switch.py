"""Promise 7, switch: the circle and the parts of one switching."""

import unittest

from tests.lines import ask, ask_of


class Switch(unittest.TestCase):
    def assert_switch(self, text, switching, answer):
        self.assertEqual(ask_of(text, ("switch", switching)), [answer], (text, switching))

    def test_first_of_a_line(self):
        self.assertEqual(ask(("switch", []), ("switch", [0])), [[0, 1], [-1]])

    def test_good_ones(self):
        text = "a*b, ~a|~b ; ; 0-2 1-3"
        self.assert_switch(text, [0], [0, 1])
        self.assert_switch(text, [1], [0, 1])
        self.assert_switch("a, ~a ; a ; 0-3 1-2", [], [0, 1])

    def test_too_short_and_too_long(self):
        text = "a|b, ~a|~b ; ; 0-2 1-3"
        for switching in ([], [0], [0, 0, 0], [0] * 200):
            self.assert_switch(text, switching, [-1])
        self.assert_switch(";;", [0], [-1])

    def test_neither_0_nor_1(self):
        text = "a|b, ~a|~b ; ; 0-2 1-3"
        for number in (2, -1, 3, 256, 10 ** 18, -10 ** 18, 2 ** 32, 2 ** 32 + 1):
            self.assert_switch(text, [number, 0], [-1])
            self.assert_switch(text, [0, number], [-1])
            self.assert_switch(text, [1, number], [-1])

    def test_several_parts(self):
        text = "a|b, ~a|~b ; ; 0-2 1-3"
        self.assert_switch(text, [0, 0], [0, 2])
        self.assert_switch(text, [0, 1], [0, 2])
        self.assert_switch(text, [1, 0], [0, 2])
        self.assert_switch(text, [1, 1], [0, 2])
        self.assert_switch("a|~a, b|~b, c, ~c ; ; 0-1 2-3 4-5", [0, 1], [0, 3])

    def test_circle(self):
        text = "(a|b)*c, ~a, ~b*~c ; ; 0-3 1-4 2-5"
        self.assert_switch(text, [0], [0, 1])
        self.assert_switch(text, [1], [1, 2])
        self.assert_switch("a*~a ; ; 0-1", [], [1, 1])

    def test_two_edges_between_the_same_points(self):
        self.assert_switch("; a ; 0-1", [], [1, 1])

    def test_circle_in_one_part_of_several(self):
        self.assert_switch("a*~a, b, ~b ; ; 0-1 2-3", [], [1, 2])

    def test_cut_joins_the_whole_formulas(self):
        text = "; a|b ; 0-2 1-3"
        self.assert_switch(text, [0], [1, 1])
        self.assert_switch(text, [1], [1, 1])
        self.assert_switch("a|b, ~a*~b ; a|b ; 0-6 1-7 2-4 3-5", [0, 0], [0, 1])

    def test_empty(self):
        self.assert_switch(";;", [], [0, 0])

    def test_many_pars(self):
        names = ["a%d" % place for place in range(40)]
        links = " ".join("%d-%d" % (leaf, leaf + 40) for leaf in range(40))
        text = "%s, %s ; ; %s" % ("|".join(names), "|".join("~" + name for name in names), links)
        self.assert_switch(text, [0] * 78, [0, 40])
        self.assert_switch(text, [1] * 78, [0, 40])
        self.assert_switch(text, [0] * 77, [-1])

    def test_nothing_is_changed(self):
        told = ask_of("a|b, ~a|~b ; ; 0-2 1-3", "form", ("switch", [1, 1]), ("switch", [2, 1]), "form")
        self.assertEqual(told[0], told[3])


if __name__ == "__main__":
    unittest.main()
