"""The interface: how the calls and the answers stand in their lists."""

import unittest

from drawntogether.nets import answers
from tests.lines import FAR, ask, as_bytes, packed

FIRST_FORM = list(b"a, ~a ;  ; 0-1")
CHANGING = ["form", "turn", ("shut", 0), "form", ("set", "a|a, ~a*~a ; a, b ; 0-2 1-5 3-4 6-7"), "form", ("swap", 0, 1),
            ("open", 0), "turn", "bare", ("shut", 1), "form", "bare", "test", "bad", "draw", ("partner", 3), "form"]


class Lists(unittest.TestCase):
    def test_one_call(self):
        self.assertEqual(answers([1]), [15, 14] + FIRST_FORM)
        self.assertEqual(answers([2]), [7, 2, 0, 2, 1, 0, 0, 2])
        self.assertEqual(answers([3]), [1, 1])
        self.assertEqual(answers([4]), [1, -4])
        self.assertEqual(answers([5]), [1, 1])
        self.assertEqual(answers([6, 0]), [2, 0, 1])
        self.assertEqual(answers([6, 1, 0]), [1, -1])
        self.assertEqual(answers([0, 2, 59, 59]), [1, 0])
        self.assertEqual(answers([0, 0]), [1, -1])
        self.assertEqual(answers([7, 1]), [1, 0])
        self.assertEqual(answers([7, -FAR]), [1, -4])
        self.assertEqual(answers([8, 1, 1]), [1, 0])
        self.assertEqual(answers([8, 0, 1]), [1, -3])
        self.assertEqual(answers([8, FAR, -FAR]), [1, -4])
        self.assertEqual(answers([9, 0]), [1, -3])
        self.assertEqual(answers([9, FAR]), [1, -4])
        self.assertEqual(answers([10, 0]), [1, 1])
        self.assertEqual(answers([10, -FAR]), [1, -4])
        self.assertEqual(answers([11]), [1, -4])
        self.assertEqual(answers([12]), [1, 1])

    def test_calls_behind_one_another(self):
        text = as_bytes("a|b, ~a|~b ; ; 0-2 1-3")
        line = [0, len(text)] + text + [4, 6, 2, 1, 0, 3, 6, 0, 0, 1, 59, 5, 2]
        self.assertEqual(answers(line), [1, 4, 5, 2, 0, 0, 0, 2, 2, 0, 2, 1, 0, 1, -1, 1, -1, 1, 0,
                                         7, 2, 0, 4, 2, 0, 2, 6])

    def test_numbers_that_look_like_calls(self):
        line = [7, 7, 8, 8, 8, 9, 9, 10, 10, 7, 0, 8, 0, 12, 9, 12, 10, 11, 12, 7, 1, 10, 0, 9, 0, 11, 5]
        self.assertEqual(answers(line), [1, -4, 1, -4, 1, -4, 1, -4, 1, 1, 1, -4, 1, -4, 1, -4, 1, 1, 1, 0, 1, 1, 1, 2,
                                         1, -4, 1, 1])

    def test_all_thirteen_calls(self):
        text = as_bytes("a|b, ~a|~b ; a*b ; 0-6 1-7 2-4 3-5")
        line = [0, len(text)] + text + [9, 0, 12, 7, 0, 8, 0, 1, 8, 0, 0, 10, 1, 11, 2, 3, 4, 5, 6, 3, 0, 0, 1, 1]
        form = list(b"b, (~a|~b)|a, (a*b)*(~a|~b) ;  ; 0-7 1-4 2-5 3-6")
        self.assertEqual(answers(line), [1, 8, 1, 3, 1, 1, 1, 7, 1, -3, 1, 0, 1, 2, 1, 0] + [7, 3, 0, 8, 4, 2, 3, 13]
                         + [1, 0, 6, 3, 0, 0, 0, 0, 2, 1, 0, 2, 0, 2] + [len(form) + 1, len(form)] + form)

    def test_240_calls(self):
        self.assertEqual(answers([12, 10, 0, 9, 0] * 80), [1, 1, 1, 1, 1, 2] * 80)
        self.assertEqual(answers([5] * 240), [1, 1] * 240)
        self.assertEqual(answers([1] * 240), ([15, 14] + FIRST_FORM) * 240)
        text = as_bytes("a|b, ~a|~b ; ; 0-2 1-3")
        line = [2] + ([0, len(text)] + text) + [3] * 118 + [0, 2, 59, 59] + [4] * 119
        self.assertEqual(answers(line), [7, 2, 0, 2, 1, 0, 0, 2] + [1, 4] + [1, 0] * 118 + [1, 0]
                         + [3, 0, 0, 0] * 119)

    def test_longest_texts(self):
        line = packed([("set", " " * 3998 + ";;")] * 3 + [("set", " " * 3990), "size"])
        self.assertLessEqual(len(line), 16000)
        self.assertEqual(answers(line), [1, 0, 1, 0, 1, 0, 1, -1, 7, 0, 0, 0, 0, 0, 0, 0])

    def test_whole_numbers_alone(self):
        told = answers(packed(["form", "size", "test", "bad", "draw", ("switch", []), ("set", "a|~a;;0-1"),
                               "test", ("switch", [1]), ("set", ";;"), "bad", ("set", "")]))
        told += answers(packed([("set", "a, a, ~a, ~a ; b ; 0-2 1-3 4-5"), ("partner", 4), ("swap", 0, 0),
                                ("swap", 0, 1), ("swap", 0, 2), ("shut", 1), ("open", 1), ("open", 1), "bare", "turn",
                                "bare", ("partner", -1), "form", "size"]))
        self.assertIs(type(told), list)
        self.assertEqual({type(number) for number in told}, {int})


class Kept(unittest.TestCase):
    def test_structure_at_a_beginning(self):
        self.assertEqual(ask("form"), [[14] + FIRST_FORM])

    def test_handed_in_unchanged(self):
        line = packed(["form", ("set", "a|b, ~a|~b ; ; 0-2 1-3"), "bad", ("switch", [0, 1]), ("set", "x"), "size"])
        before = list(line)
        answers(line)
        self.assertEqual(line, before)

    def test_handed_in_unchanged_by_changes(self):
        before = packed(CHANGING)
        line = list(before)
        answers(line)
        self.assertEqual(line, before)

    def test_nothing_kept_of_changes(self):
        told = answers(packed(CHANGING))
        self.assertEqual(answers([1, 7, 0, 7, 1]), [15, 14] + FIRST_FORM + [1, 1, 1, 0])
        self.assertEqual(answers(packed(CHANGING)), told)
        # Without set all changes are made on the structure of a line's beginning.
        for line in ([12, 1], [10, 0, 1], [10, 0, 9, 0, 12, 1]):
            self.assertEqual(answers(line), answers(list(line)))
            self.assertEqual(answers([1]), [15, 14] + FIRST_FORM)

    def test_nothing_kept(self):
        line = packed(["form", "bad", ("set", "a|b, ~a|~b ; ; 0-2 1-3"), "form", "bad", "draw"])
        told = answers(line)
        self.assertEqual(answers([1]), [15, 14] + FIRST_FORM)
        self.assertEqual(answers(line), told)

    def test_given_back_anew(self):
        told = answers([1])
        told.clear()
        self.assertEqual(answers([1]), [15, 14] + FIRST_FORM)


if __name__ == "__main__":
    unittest.main()
