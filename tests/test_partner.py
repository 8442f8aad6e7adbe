"""Promise 8, partner: the leaf that a leaf is linked with."""

import unittest

from tests.lines import FAR, ask, ask_of, refused

NOT_LEAVES = (-1, -2, -FAR, FAR, FAR - 1, 2 ** 32, -2 ** 32, 2 ** 63 % FAR)


class Partner(unittest.TestCase):
    def assert_partners(self, text, partners):
        calls = [("partner", leaf) for leaf in range(len(partners))]
        self.assertEqual(ask_of(text, *calls), [[partner] for partner in partners], text)
        self.assertEqual(ask_of(text, ("partner", len(partners))), [[-4]], text)

    def test_first_of_a_line(self):
        self.assertEqual(ask(("partner", 0), ("partner", 1), ("partner", 2)), [[1], [0], [-4]])

    def test_both_leaves_of_each_pair(self):
        self.assert_partners("a*b, ~a|~b ; ; 0-2 1-3", [2, 3, 0, 1])
        self.assert_partners("a*b, ~b|~a ; ; 0-3 1-2", [3, 2, 1, 0])
        self.assert_partners("(a|~a)*b, ~b, c, ~c ; ; 0-1 2-3 4-5", [1, 0, 3, 2, 5, 4])

    def test_leaves_of_cuts(self):
        self.assert_partners("a, ~a ; a ; 0-3 1-2", [3, 2, 1, 0])
        self.assert_partners("; a*b, c ; 0-2 1-3 4-5", [2, 3, 0, 1, 5, 4])
        self.assert_partners("a, ~a ; a, a ; 0-3 1-4 2-5", [3, 4, 5, 0, 1, 2])

    def test_no_leaf(self):
        for text in ("a*b, ~a|~b ; ; 0-2 1-3", "a, ~a ; a ; 0-3 1-2"):
            for leaf in (4, 5) + NOT_LEAVES:
                self.assertEqual(refused(text, ("partner", leaf)), -4, leaf)

    def test_without_leaves(self):
        for leaf in (0, 1) + NOT_LEAVES:
            self.assertEqual(refused(";;", ("partner", leaf)), -4, leaf)

    def test_120_leaves(self):
        names = ["a"] * 30 + ["~a"] * 30
        formula = "(%s)*(%s)" % ("*".join(names[:30]), "*".join(names[30:]))
        links = " ".join("%d-%d" % (leaf, leaf + 60) for leaf in range(60))
        self.assert_partners("; %s ; %s" % (formula, links), list(range(60, 120)) + list(range(60)))


if __name__ == "__main__":
    unittest.main()
