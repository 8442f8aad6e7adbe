"""The interface: how the calls and the answers stand in their lists."""

import unittest

from drawntogether.nets import answers
from tests.lines import ask, as_bytes, packed

FIRST_FORM = list(b"a, ~a ;  ; 0-1")


class Lists(unittest.TestCase):
    def test_one_call(self):
        self.assertEqual(answers([1]), [15, 14] + FIRST_FORM)
        self.assertEqual(answers([2]), [7, 2, 0, 2, 1, 0, 0, 2])
        self.assertEqual(answers([3]), [1, 1])
        self.assertEqual(answers([4]), [1, -4])
        self.assertEqual(answers([5]), [1, 1])
        self.assertEqual(answers([6, 0]), [2, 0, 1])
        self.assertEqual(answers([6, 1, 0]), [1, -1])
        self.assertEqual(answers([0, 2, 59, 59]), [1, 0])
        self.assertEqual(answers([0, 0]), [1, -1])

    def test_calls_behind_one_another(self):
        text = as_bytes("a|b, ~a|~b ; ; 0-2 1-3")
        line = [0, len(text)] + text + [4, 6, 2, 1, 0, 3, 6, 0, 0, 1, 59, 5, 2]
        self.assertEqual(answers(line), [1, 4, 5, 2, 0, 0, 0, 2, 2, 0, 2, 1, 0, 1, -1, 1, -1, 1, 0,
                                         7, 2, 0, 4, 2, 0, 2, 6])

    def test_240_calls(self):
        self.assertEqual(answers([5] * 240), [1, 1] * 240)
        self.assertEqual(answers([1] * 240), ([15, 14] + FIRST_FORM) * 240)
        text = as_bytes("a|b, ~a|~b ; ; 0-2 1-3")
        line = [2] + ([0, len(text)] + text) + [3] * 118 + [0, 2, 59, 59] + [4] * 119
        self.assertEqual(answers(line), [7, 2, 0, 2, 1, 0, 0, 2] + [1, 4] + [1, 0] * 118 + [1, 0]
                         + [3, 0, 0, 0] * 119)

    def test_longest_texts(self):
        line = packed([("set", " " * 3998 + ";;")] * 3 + [("set", " " * 3990), "size"])
        self.assertLessEqual(len(line), 16000)
        self.assertEqual(answers(line), [1, 0, 1, 0, 1, 0, 1, -1, 7, 0, 0, 0, 0, 0, 0, 0])

    def test_whole_numbers_alone(self):
        told = answers(packed(["form", "size", "test", "bad", "draw", ("switch", []), ("set", "a|~a;;0-1"),
                               "test", ("switch", [1]), ("set", ";;"), "bad", ("set", "")]))
        self.assertIs(type(told), list)
        self.assertEqual({type(number) for number in told}, {int})


class Kept(unittest.TestCase):
    def test_structure_at_a_beginning(self):
        self.assertEqual(ask("form"), [[14] + FIRST_FORM])

    def test_handed_in_unchanged(self):
        line = packed(["form", ("set", "a|b, ~a|~b ; ; 0-2 1-3"), "bad", ("switch", [0, 1]), ("set", "x"), "size"])
        before = list(line)
        answers(line)
        self.assertEqual(line, before)

    def test_nothing_kept(self):
        line = packed(["form", "bad", ("set", "a|b, ~a|~b ; ; 0-2 1-3"), "form", "bad", "draw"])
        told = answers(line)
        self.assertEqual(answers([1]), [15, 14] + FIRST_FORM)
        self.assertEqual(answers(line), told)

    def test_given_back_anew(self):
        told = answers([1])
        told.clear()
        self.assertEqual(answers([1]), [15, 14] + FIRST_FORM)


if __name__ == "__main__":
    unittest.main()
