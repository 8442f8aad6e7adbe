"""Promise 6, draw: whether the structure draws together."""

import unittest

from tests.lines import ask, ask_of
from tests.test_net import identity, pars_alone


class Draw(unittest.TestCase):
    def assert_draw(self, text, answer):
        self.assertEqual(ask_of(text, "draw"), [[answer]], text)

    def test_first_of_a_line(self):
        self.assertEqual(ask("draw"), [[1]])

    def test_nets(self):
        self.assert_draw("a*b, ~a|~b ; ; 0-2 1-3", 1)
        self.assert_draw("a, ~a ; a ; 0-3 1-2", 1)
        self.assert_draw("a|~a ; ; 0-1", 1)
        self.assert_draw("(a -o b) -o (b -o c) -o a -o c ; ; 0-4 1-2 3-5", 1)

    def test_an_edge_within_one_cluster(self):
        self.assert_draw("a*~a ; ; 0-1", 0)
        self.assert_draw("; a ; 0-1", 0)
        self.assert_draw("a*b, ~a*~b ; ; 0-2 1-3", 0)

    def test_a_par_that_is_never_taken(self):
        self.assert_draw("a|b, ~a|~b ; ; 0-2 1-3", 0)
        self.assert_draw("a|b, ~a, ~b ; ; 0-2 1-3", 0)

    def test_a_par_in_the_cluster_of_its_halves(self):
        self.assert_draw("(a|~a)*b, ~b ; ; 0-1 2-3", 1)
        self.assert_draw("(a|b)*c, ~a*~b*~c ; ; 0-3 1-4 2-5", 0)

    def test_several_clusters_with_all_pars_taken(self):
        self.assert_draw("a, ~a, b, ~b ; ; 0-1 2-3", 0)
        self.assert_draw("a|~a, b|~b ; ; 0-1 2-3", 0)

    def test_empty(self):
        self.assert_draw(";;", 0)

    def test_pars_one_behind_another(self):
        self.assert_draw("((a*b)|~a)|~b ; ; 0-2 1-3", 1)
        self.assert_draw("~b|~a|(a*b) ; ; 0-3 1-2", 1)

    def test_where_test_refuses(self):
        for count in (11, 20, 39):
            self.assertEqual(ask_of(identity(count), "test", "draw"), [[-7], [1]])
        for count in (12, 30, 60):
            self.assertEqual(ask_of(pars_alone(count), "test", "draw"), [[-7], [0]])
        cluster = "(e|f)*d, ~e, ~f*~d"
        pairs = "*".join("(a|~a)" for place in range(12))
        links = "0-3 1-4 2-5 " + " ".join("%d-%d" % (leaf, leaf + 1) for leaf in range(6, 30, 2))
        self.assertEqual(ask_of("%s*%s ; ; %s" % (cluster, pairs, links), "test", "draw"), [[-7], [0]])


if __name__ == "__main__":
    unittest.main()
