"""Many structures, from fixed seeds, against the slow way of tests/slow.py."""

import random
import unittest

from tests.lines import ask
from tests.slow import Slow, form

NAMES = (b"a", b"b", b"c1")


def net(chance, steps):
    """A proof's conclusions, the formulas made of atoms that carry a link's mark."""
    proofs = [axiom(chance, mark) for mark in range(steps)]
    while len(proofs) > 1 or chance.random() < 0.7:
        place = chance.randrange(len(proofs))
        proof = proofs[place]
        if len(proofs) > 1 and chance.random() < 0.6:
            other = proofs.pop((place + 1) % len(proofs))
            first = proof.pop(chance.randrange(len(proof)))
            second = other.pop(chance.randrange(len(other)))
            proof.extend(other)
            proof.append(("*", first, second))
        elif len(proof) > 1:
            first = proof.pop(chance.randrange(len(proof)))
            second = proof.pop(chance.randrange(len(proof)))
            proof.append(("|", first, second))
        elif len(proofs) == 1:
            break
        chance.shuffle(proof)
    return proofs[0]


def axiom(chance, mark):
    name = chance.choice(NAMES)
    return [("atom", name, False, mark), ("atom", name, True, mark)]


def marks(formula):
    return [formula[3]] if formula[0] == "atom" else marks(formula[1]) + marks(formula[2])


def with_cut(chance, conclusions, fresh):
    """Cuts one conclusion A against its dual, which comes with A again."""
    place = chance.randrange(len(conclusions))
    cut = conclusions[place]
    count = [fresh]

    def marked(formula):
        if formula[0] == "atom":
            count[0] += 1
            return formula[:3] + (count[0],)
        return (formula[0], marked(formula[1]), marked(formula[2]))

    again = marked(cut)
    rest = conclusions[:place] + [again] + conclusions[place + 1:]
    return rest, cut, marks(cut) + marks(again)


def text_of(conclusions, cuts, leaf_marks):
    places = {}
    for place, mark in enumerate(leaf_marks):
        places.setdefault(mark, []).append(place)
    links = b" ".join(b"%d-%d" % tuple(pair) for pair in sorted(places.values()))
    sequents = [b", ".join(form(formula) for formula in sequent) for sequent in (conclusions, cuts)]
    return b" ; ".join(sequents + [links])


def net_text(chance, steps):
    conclusions = net(chance, steps)
    if chance.random() < 0.4:
        conclusions, cut, behind = with_cut(chance, conclusions, steps)
        leaf_marks = [mark for formula in conclusions for mark in marks(formula)] + behind
        return text_of(conclusions, [cut], leaf_marks)
    return text_of(conclusions, [], [mark for formula in conclusions for mark in marks(formula)])


def jumbled(chance, text):
    """The same formulas with other links, which fit."""
    slow = Slow(text)
    pairs = []
    for name in sorted(set(leaf[1] for leaf in slow.leaves)):
        plain = [place for place, leaf in enumerate(slow.leaves) if leaf[1:] == (name, False)]
        turned = [place for place, leaf in enumerate(slow.leaves) if leaf[1:] == (name, True)]
        chance.shuffle(turned)
        pairs += [tuple(sorted(pair)) for pair in zip(plain, turned)]
    return text[:text.rindex(b";") + 1] + b" ".join(b"%d-%d" % pair for pair in sorted(pairs))


def exchanged(chance, text):
    """Two signs of the conclusions exchanged, so that there are as many of each."""
    pieces = text.split(b";")
    first = bytearray(pieces[0])
    signs = [place for place, byte in enumerate(first) if byte in b"*|"]
    if len(signs) > 1:
        one, other = chance.sample(signs, 2)
        first[one], first[other] = first[other], first[one]
    return b";".join([bytes(first)] + pieces[1:])


class Graphs(unittest.TestCase):
    def assert_same(self, text, chance):
        slow = Slow(text)
        switching = [chance.randrange(2) for par in slow.pars]
        told = ask(("set", text), "form", "size", "draw", ("switch", switching), "test", "bad")
        self.assertEqual(told[0], [len(slow.leaves)], text)
        self.assertEqual(told[1][1:], slow.form(), text)
        self.assertEqual(told[2], slow.size(), text)
        self.assertEqual(told[3], [slow.draw()], text)
        self.assertEqual(told[4], slow.switch(switching), text)
        if len(slow.pars) > 10:
            self.assertEqual(told[5:], [[-7], [-7]], text)
            return
        first = slow.first_bad()
        if first is None:
            self.assertEqual(told[5:], [[1], [-4]], text)
        else:
            self.assertEqual(told[5:], [[0], [len(first)] + first + slow.switch(first)], text)
        self.assertEqual(told[3], told[5], text)

    def assert_many(self, seed, change):
        chance = random.Random(seed)
        found = {0: 0, 1: 0}
        for number in range(250):
            text = change(chance, net_text(chance, chance.randrange(2, 9)))
            if Slow(text).refusal is None:
                self.assert_same(text, chance)
                found[Slow(text).draw()] += 1
        self.assertGreater(min(found.values()), 20)

    def test_nets(self):
        chance = random.Random(1)
        for number in range(120):
            text = net_text(chance, chance.randrange(1, 9))
            self.assertEqual(ask(("set", text), "draw")[1], [1], text)
            self.assert_same(text, chance)

    def test_great_nets_draw_together(self):
        chance = random.Random(2)
        for number in range(60):
            text = net_text(chance, chance.randrange(15, 25))
            told = ask(("set", text), "draw")
            if told[0][0] > 0:
                self.assertEqual(told[1], [1], text)
                self.assert_same(text, chance)

    def test_other_links(self):
        self.assert_many(3, jumbled)

    def test_other_signs(self):
        self.assert_many(4, exchanged)


class Texts(unittest.TestCase):
    def assert_same(self, text):
        slow = Slow(text)
        told = ask(("set", text), "form")
        if slow.refusal is None:
            self.assertEqual(told[0], [len(slow.leaves)], text)
            self.assertEqual(told[1][1:], slow.form(), text)
        else:
            self.assertEqual(told[0], [slow.refusal], text)

    def test_formulas_of_any_tokens(self):
        chance = random.Random(5)
        taken = 0
        for number in range(3000):
            tokens = [chance.choice(("a", "b", "a", "~", "*", "|", "(", ")", "-o", " "))
                      for place in range(chance.randrange(1, 10))]
            formula = "".join(tokens).encode()
            self.assert_same(formula + b";;")
            taken += Slow(formula + b";;").refusal == -3
        self.assertGreater(taken, 50)

    def test_random_formulas(self):
        chance = random.Random(6)
        for number in range(400):
            formula = random_formula(chance, chance.randrange(1, 7))
            count = len(Slow(formula + b";;").leaves)
            links = b" ".join(b"%d-%d" % (leaf, leaf + count) for leaf in range(count))
            text = formula + b", ~(" + formula + b") ; ; " + links
            self.assert_same(text)
            self.assert_same(b"; " + formula + b" ; " + links)
            spoilt = bytearray(text)
            spoilt[chance.randrange(len(spoilt))] = chance.choice(b"ab~*|()-o;, 019Z")
            self.assert_same(bytes(spoilt))

    def test_much_unclosed(self):
        chance = random.Random(7)
        kinds = set()
        for number in range(400):
            formula = b"a"
            ways = chance.sample((b"(%s)", b"~(%s)", b"~~(%s)", b"b*(%s)", b"c -o (%s)", b"(%s)|b"), 2)
            for step in range(chance.randrange(40, 100)):
                formula = chance.choice(ways) % formula
            self.assert_same(formula + b";;")
            kinds.add(Slow(formula + b";;").refusal)
        self.assertEqual(kinds, {-1, -3, -6})

    def test_links(self):
        chance = random.Random(8)
        for number in range(1500):
            links = "".join(chance.choice(("0", "1", "2", "3", "-", "-", " ", "0-1", "2-3", "1-2", "0-3"))
                            for place in range(chance.randrange(0, 8)))
            self.assert_same(b"a*~a, a*~a ; ; " + links.encode())
            self.assert_same(b"a|~a ; a ; " + links.encode())


def random_formula(chance, height):
    pick = chance.randrange(6) if height > 1 else 0
    if pick == 0:
        return chance.choice((b"a", b"b", b"~a", b"~ ~b"))
    if pick == 1:
        return b"~(" + random_formula(chance, height - 1) + b")"
    first = random_formula(chance, height - 1)
    second = random_formula(chance, height - 1)
    return b"(" + first + chance.choice((b")*(", b") | (", b") -o (")) + second + b")"


if __name__ == "__main__":
    unittest.main()
