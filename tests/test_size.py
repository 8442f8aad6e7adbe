"""Promise 3, size: conclusions, cuts, leaves, links, tensors, pars, points."""

import unittest

from tests.lines import ask, ask_of


class Size(unittest.TestCase):
    def assert_size(self, text, size):
        self.assertEqual(ask_of(text, "size"), [size])

    def test_first_of_a_line(self):
        self.assertEqual(ask("size"), [[2, 0, 2, 1, 0, 0, 2]])

    def test_without_cuts(self):
        self.assert_size("a*b, ~a|~b ; ; 0-2 1-3", [2, 0, 4, 2, 1, 1, 6])
        self.assert_size("a|b, ~a|~b ; ; 0-2 1-3", [2, 0, 4, 2, 0, 2, 6])
        self.assert_size("a*~a ; ; 0-1", [1, 0, 2, 1, 1, 0, 3])
        self.assert_size("(a*b*c)|(~a*~b), ~c ; ; 0-3 1-4 2-5", [2, 0, 6, 3, 3, 1, 10])

    def test_a_cut_counts_for_two_formulas(self):
        self.assert_size("a, ~a ; a ; 0-3 1-2", [2, 1, 4, 2, 0, 0, 4])
        self.assert_size("; a*b*c ; 0-3 1-4 2-5", [0, 1, 6, 3, 2, 2, 10])
        self.assert_size("a|~a ; a*b, c ; 0-1 2-4 3-5 6-7", [1, 2, 8, 4, 1, 2, 11])

    def test_empty(self):
        self.assert_size(";;", [0, 0, 0, 0, 0, 0, 0])

    def test_arrow_is_a_par(self):
        self.assert_size("a -o a ; ; 0-1", [1, 0, 2, 1, 0, 1, 3])


if __name__ == "__main__":
    unittest.main()
