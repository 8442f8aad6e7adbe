"""Lines of all thirteen calls mixed, from fixed seeds, against tests/slow_holder.py."""

import random
import unittest

from drawntogether.nets import answers
from tests.lines import FAR, NUMBERS, ask, form_text, linked, packed
from tests.slow_holder import SlowHolder
from tests.test_against_slow import exchanged, jumbled, net_text

CHANGES = ("swap", "open", "shut", "bare", "turn")
NO_TEXTS = (b"", b"a, ~a ; 0-1", b"a, ~a ; ; 1-0", b"a, ~a ; ; ", b"A;;", b"*".join([b"a"] * 41) + b";;",
            b", ".join([b"a|(b|c)|(d|e)|~a"] * 20 + [b""])[:-2] + b"; a*b ;")
GREAT_TEXTS = (
    linked(", ".join(["a|~a|b"] * 10 + ["~b"] * 10), "a*b, c"),
    linked(", ".join(["a", "~a"] * 10), "b|c, b*c, ~b"),
    linked("", ", ".join(["a"] * 18 + ["a|b", "c"])),
    linked("%s, %s" % ("|".join(["a", "~a"] * 19), "(b|~b)*c, ~c"), "c, %s" % "*".join(["a"] * 31)),
    linked("%s, %s" % ("*".join(["a"] * 30), "|".join(["~a"] * 30)), "c|~c, a"),
)


def place_near(chance, count):
    """Mostly a place from 0 on below count, at times one just or far outside."""
    if chance.random() < 0.15:
        return chance.choice((-1, count, count + 1, -count - 1, FAR, -FAR))
    return chance.randrange(max(count, 1))


def text_for(chance):
    pick = chance.random()
    if pick < 0.15:
        return chance.choice(NO_TEXTS)
    if pick < 0.3:
        return chance.choice(GREAT_TEXTS).encode()
    text = net_text(chance, chance.randrange(1, 9))
    if pick < 0.6:
        text = jumbled(chance, text)
    if pick < 0.45:
        text = exchanged(chance, text)
    return text


def swap_for(chance, holder):
    """Mostly two leaves of one kind, so that few swaps are refused."""
    leaves = holder.leaves()
    place = place_near(chance, len(leaves))
    if place in range(len(leaves)) and chance.random() < 0.8:
        same = [other for other, leaf in enumerate(leaves) if leaf[:3] == leaves[place][:3]]
        return ("swap", place, chance.choice(same))
    return ("swap", place, place_near(chance, len(leaves)))


def switching_for(chance, pars):
    switching = [chance.randrange(2) for par in range(pars)]
    if chance.random() < 0.1:
        switching.append(0)
    if switching and chance.random() < 0.1:
        switching[chance.randrange(len(switching))] = chance.choice((2, -1, FAR, -FAR))
    return switching


def call_for(chance, name, holder):
    if name == "set":
        return ("set", text_for(chance))
    if name == "switch":
        return ("switch", switching_for(chance, holder.call_size()[5]))
    if name == "partner":
        return ("partner", place_near(chance, len(holder.leaves())))
    if name == "swap":
        return swap_for(chance, holder)
    if name in ("open", "shut"):
        return (name, place_near(chance, len(holder.conclusions)))
    return name


def line_for(chance, names, count):
    """Calls that suit what is held when they come, and the slow way's answers."""
    holder = SlowHolder()
    calls = []
    told = []
    for number in range(count):
        call = call_for(chance, chance.choice(names), holder)
        calls.append(call)
        told.append(holder.answer(call))
    return calls, told


class Lines(unittest.TestCase):
    def assert_same(self, calls, told):
        found = ask(*calls)
        for number, call in enumerate(calls):
            self.assertEqual(found[number], told[number], (call, calls[:number]))

    def assert_lines(self, seed, names, lines, count):
        chance = random.Random(seed)
        taken = dict.fromkeys(NUMBERS, 0)
        for number in range(lines):
            calls, told = line_for(chance, names, count)
            self.assert_same(calls, told)
            for call, answer in zip(calls, told):
                taken[call if isinstance(call, str) else call[0]] += answer[0] >= 0
        self.assertGreater(min(taken[name] for name in names), 5)

    def test_all_calls_mixed(self):
        self.assert_lines(11, list(NUMBERS), 60, 60)

    def test_changes_and_forms(self):
        self.assert_lines(12, list(CHANGES) * 6 + ["set", "form", "form", "partner"], 60, 120)

    def test_changes_and_graphs(self):
        self.assert_lines(13, list(CHANGES) * 3 + ["set", "test", "bad", "draw", "switch"], 60, 60)

    def test_240_calls(self):
        chance = random.Random(14)
        names = list(NUMBERS) + list(CHANGES) * 2
        for number in range(4):
            calls, told = line_for(chance, names, 240)
            line = packed(calls)
            self.assertLessEqual(len(line), 16000)
            before = list(line)
            found = answers(line)
            self.assertEqual(line, before)
            self.assertEqual(found, [each for answer in told for each in [len(answer)] + answer])
            self.assertEqual(answers(line), found)

    def test_forms_are_read_again(self):
        chance = random.Random(15)
        for number in range(60):
            calls, told = line_for(chance, ["set"] + list(CHANGES) * 4, 40)
            found = ask(*calls, "form", "size", "draw")
            form = form_text(found[-3])
            self.assertEqual(ask(("set", form), "form", "size", "draw")[1:], found[-3:], calls)


class Kept(unittest.TestCase):
    """What open, shut, bare and turn keep: whether it draws together, and is a net."""

    def test_draw_and_test(self):
        chance = random.Random(16)
        kinds = set()
        for number in range(150):
            text = net_text(chance, chance.randrange(1, 8))
            text = jumbled(chance, text) if number % 2 else text
            calls, told = line_for_text(chance, text, ("open", "shut", "bare", "turn"), 30)
            found = ask(("set", text), "draw", *calls)
            self.assertEqual(found[2:], told, calls)
            draws = {answer[0] for call, answer in zip(calls, told) if call in ("draw", "test") and answer[0] >= 0}
            self.assertEqual(draws, {found[1][0]}, calls)
            kinds |= draws
        self.assertEqual(kinds, {0, 1})


def line_for_text(chance, text, names, count):
    holder = SlowHolder()
    holder.answer(("set", text))
    calls = []
    for number in range(count):
        change = call_for(chance, chance.choice(names), holder)
        for call in (change, "draw", "test"):
            calls.append(call)
            holder.answer(call)
    holder.answer(("set", text))
    return calls, [holder.answer(call) for call in calls]


if __name__ == "__main__":
    unittest.main()
