"""Promises 4 and 5: test, whether it is a net, and bad, the first bad switching."""

import unittest

from tests.lines import ask, ask_of


def identity(count):
    """A net: a1 tensor .. with a1's dual par .., of so many pars."""
    names = ["a%d" % place for place in range(count + 1)]
    links = " ".join("%d-%d" % (place, place + count + 1) for place in range(count + 1))
    return "%s, ~(%s) ; ; %s" % ("*".join(names), "*".join(names), links)


def pars_alone(count):
    """No net: so many pars and no tensor."""
    names = ["a%d" % place for place in range(count // 2 + 1)]
    links = " ".join("%d-%d" % (place, place + len(names)) for place in range(len(names)))
    turned = ["~" + name for name in names]
    return "%s, %s ; ; %s" % ("|".join(names), "|".join(turned), links)


class Nets(unittest.TestCase):
    def assert_net(self, text):
        self.assertEqual(ask_of(text, "test", "bad"), [[1], [-4]], text)

    def test_first_of_a_line(self):
        self.assertEqual(ask("test", "bad"), [[1], [-4]])

    def test_examples(self):
        self.assert_net("a*b, ~a|~b ; ; 0-2 1-3")
        self.assert_net("a, ~a ; a ; 0-3 1-2")

    def test_others(self):
        self.assert_net("a|~a ; ; 0-1")
        self.assert_net("a -o a ; ; 0-1")
        self.assert_net("a*b -o b*a ; ; 0-3 1-2")
        self.assert_net("(a -o b) -o (b -o c) -o a -o c ; ; 0-4 1-2 3-5")
        self.assert_net("a, ~a*b, ~b ; ; 0-1 2-3")
        self.assert_net("a*b, ~a|~b ; a*b ; 0-6 1-7 2-4 3-5")
        self.assert_net("a, ~a*b, ~b*c*~d, d, ~c ; ; 0-1 2-3 4-7 5-6")

    def test_ten_and_eleven_pars(self):
        for count in (1, 9, 10):
            self.assert_net(identity(count))
        for count in (11, 12, 30):
            self.assertEqual(ask_of(identity(count), "test", "bad"), [[-7], [-7]])

    def test_pars_of_cuts_count(self):
        chain = "*".join(["a"] * 6)
        links = " ".join("%d-%d" % (leaf, leaf + 6) for leaf in (0, 1, 2, 3, 4, 5, 12, 13, 14, 15, 16, 17))
        self.assertEqual(ask_of("; %s, %s ; %s" % (chain, chain, links), "test"), [[0]])
        links = " ".join("%d-%d" % (leaf, leaf + 6) for leaf in range(6)) + " "
        links += " ".join("%d-%d" % (leaf, leaf + 7) for leaf in range(12, 19))
        self.assertEqual(ask_of("; %s, a*%s ; %s" % (chain, chain, links), "test", "bad"), [[-7], [-7]])


class Others(unittest.TestCase):
    def assert_bad(self, text, answer):
        self.assertEqual(ask_of(text, "test", "bad"), [[0], answer], text)

    def test_examples(self):
        self.assert_bad("a|b, ~a|~b ; ; 0-2 1-3", [2, 0, 0, 0, 2])
        self.assert_bad("a*~a ; ; 0-1", [0, 1, 1])

    def test_empty(self):
        self.assert_bad(";;", [0, 0, 0])

    def test_several_parts(self):
        self.assert_bad("a, ~a, b, ~b ; ; 0-1 2-3", [0, 0, 2])
        self.assert_bad("a, ~a, b, ~b, c, ~c ; ; 0-1 2-3 4-5", [0, 0, 3])

    def test_a_cut_with_itself(self):
        self.assert_bad("; a ; 0-1", [0, 1, 1])
        self.assert_bad("a, ~a ; a ; 0-1 2-3", [0, 1, 2])

    def test_circle_and_several_parts(self):
        self.assert_bad("a*~a, b, ~b ; ; 0-1 2-3", [0, 1, 2])
        self.assert_bad("a*b, ~a*~b ; ; 0-2 1-3", [0, 1, 1])

    def test_all_switchings_bad(self):
        self.assert_bad("(a*~a)|b, ~b ; ; 0-1 2-3", [1, 0, 1, 2])
        self.assert_bad("b|(a*~b)|~a, c*~c ; ; 0-2 1-3 4-5", [2, 0, 0, 1, 2])

    def test_bad_with_the_second_side_alone(self):
        # From the par to b, but not to a, there is another way through c.
        self.assert_bad("(a|b)*c, ~a, ~b*~c ; ; 0-3 1-4 2-5", [1, 1, 1, 2])
        self.assert_bad("(b|a)*c, ~a, ~b*~c ; ; 0-4 1-3 2-5", [1, 0, 1, 2])

    def test_the_rest_of_the_first_one_is_zeros(self):
        self.assert_bad("(a|b)*c, ~a, ~b*~c*(d|~d) ; ; 0-3 1-4 2-5 6-7", [2, 1, 0, 1, 2])
        self.assert_bad("(d|~d)*(a|b)*c, ~a, ~b*~c ; ; 0-1 2-5 3-6 4-7", [2, 0, 1, 1, 2])

    def test_pars_are_numbered_outer_first_and_left_first(self):
        # Only the par of e and f, the last one in the order, has a bad side.
        text = "(a|~a)*((b|~b)*(c|~c))*((e|f)*d), ~e, ~f*~d ; ; 0-1 2-3 4-5 6-9 7-10 8-11"
        self.assert_bad(text, [4, 0, 0, 0, 1, 1, 2])
        text = "((e|f)*d)*(a|~a)*(b|~b)*(c|~c), ~e, ~f*~d ; ; 0-9 1-10 2-11 3-4 5-6 7-8"
        self.assert_bad(text, [4, 1, 0, 0, 0, 1, 2])
        # The outer par, 0, has the bad side; the par within it is 1.
        self.assert_bad("((x|~x)|b)*c, ~b*~c ; ; 0-1 2-4 3-5", [2, 1, 0, 1, 2])

    def test_ten_pars(self):
        self.assert_bad(pars_alone(10), [10] + [0] * 10 + [0, 6])
        self.assertEqual(ask_of(pars_alone(12), "test", "bad"), [[-7], [-7]])

    def test_second_of_1024(self):
        names = ["a%d" % place for place in range(9)]
        pairs = "*".join("(%s|~%s)" % (name, name) for name in names)
        links = " ".join("%d-%d" % (leaf, leaf + 1) for leaf in range(0, 18, 2))
        text = "%s*((e|f)*d), ~e, ~f*~d ; ; %s 18-21 19-22 20-23" % (pairs, links)
        self.assert_bad(text, [10] + [0] * 9 + [1, 1, 2])

    def test_last_of_1024(self):
        # Each par leads to the hub or to the ring's next one: only with all
        # of them on the second side is the ring closed and the hub left alone.
        ring = ["(x%d|a%d)*~a%d" % (place, place, (place + 1) % 10) for place in range(10)]
        hub = "*".join("~x%d" % place for place in range(10))
        pairs = [(3 * place, 30 + place) for place in range(10)]
        pairs += [tuple(sorted((3 * place + 1, (3 * place - 1) % 30))) for place in range(10)]
        links = " ".join("%d-%d" % pair for pair in sorted(pairs))
        self.assert_bad("%s, %s ; ; %s" % (", ".join(ring), hub, links), [10] + [1] * 10 + [1, 2])


if __name__ == "__main__":
    unittest.main()
