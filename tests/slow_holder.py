"""All thirteen calls done over again, slowly and in another way.

Atoms carry marks here, one for the two leaves of each pair: links are nowhere
kept, but found again from the marks after each change.
"""

import functools

from tests.slow import Slow, depth, dual, form


@functools.lru_cache(maxsize=None)
def read(text):
    return Slow(text)


@functools.lru_cache(maxsize=None)
def first_bad(text):
    return read(text).first_bad()


def marked_atoms(formula):
    return [formula] if formula[0] == "atom" else marked_atoms(formula[1]) + marked_atoms(formula[2])


def marked(formula, marks):
    if formula[0] == "atom":
        return formula + (marks.pop(0),)
    first = marked(formula[1], marks)
    return (formula[0], first, marked(formula[2], marks))


def changed(formula, old, new):
    """The formula with one atom, which stands in it once at most, changed to another."""
    if formula[0] == "atom":
        return new if formula == old else formula
    return (formula[0], changed(formula[1], old, new), changed(formula[2], old, new))


def is_too_great(formula):
    return len(marked_atoms(formula)) > 60 or depth(formula) > 40


class SlowHolder:
    def __init__(self):
        self.call_set(b"a, ~a ; ; 0-1")

    def answer(self, call):
        if isinstance(call, str):
            return getattr(self, "call_" + call)()
        return getattr(self, "call_" + call[0])(*call[1:])

    def formulas(self):
        return self.conclusions + [half for cut in self.cuts for half in cut]

    def leaves(self):
        return [leaf for formula in self.formulas() for leaf in marked_atoms(formula)]

    def text(self):
        places = {}
        for place, leaf in enumerate(self.leaves()):
            places.setdefault(leaf[3], []).append(place)
        links = b" ".join(b"%d-%d" % tuple(pair) for pair in sorted(places.values()))
        conclusions = b", ".join(form(formula) for formula in self.conclusions)
        cuts = b", ".join(form(cut[0]) for cut in self.cuts)
        return b" ; ".join([conclusions, cuts, links])

    def call_set(self, text):
        slow = read(bytes(text))
        if slow.refusal is not None:
            return [slow.refusal]
        marks = [None] * len(slow.leaves)
        for mark, link in enumerate(slow.links):
            marks[link[0]] = marks[link[1]] = mark
        self.conclusions = [marked(formula, marks) for formula in slow.conclusions]
        self.cuts = [(marked(cut, marks), marked(dual(cut), marks)) for cut in slow.cuts]
        return [len(slow.leaves)]

    def call_form(self):
        return [len(self.text())] + list(self.text())

    def call_size(self):
        return read(self.text()).size()

    def call_test(self):
        if len(read(self.text()).pars) > 10:
            return [-7]
        return [int(first_bad(self.text()) is None)]

    def call_bad(self):
        if len(read(self.text()).pars) > 10:
            return [-7]
        found = first_bad(self.text())
        if found is None:
            return [-4]
        return [len(found)] + found + read(self.text()).switch(found)

    def call_draw(self):
        return [read(self.text()).draw()]

    def call_switch(self, switching):
        if len(switching) != len(read(self.text()).pars) or set(switching) - {0, 1}:
            return [-1]
        return read(self.text()).switch(switching)

    def call_partner(self, place):
        leaves = self.leaves()
        if place not in range(len(leaves)):
            return [-4]
        mark = leaves[place][3]
        return [other for other, leaf in enumerate(leaves) if leaf[3] == mark and other != place]

    def call_swap(self, place, other_place):
        leaves = self.leaves()
        if place not in range(len(leaves)) or other_place not in range(len(leaves)):
            return [-4]
        leaf = leaves[place]
        other = leaves[other_place]
        if leaf[:3] != other[:3]:
            return [-3]
        before = self.text()
        spare = leaf[:3] + (-1,)
        for old, new in ((leaf, spare), (other, leaf), (spare, other)):
            self.conclusions = [changed(formula, old, new) for formula in self.conclusions]
            self.cuts = [tuple(changed(half, old, new) for half in cut) for cut in self.cuts]
        return [int(self.text() != before)]

    def call_open(self, place):
        if place not in range(len(self.conclusions)):
            return [-4]
        formula = self.conclusions[place]
        if formula[0] != "|":
            return [-3]
        if len(self.conclusions) == 20:
            return [-5]
        self.conclusions[place:place + 1] = formula[1:]
        return [len(self.conclusions)]

    def call_shut(self, place):
        if place not in range(len(self.conclusions) - 1):
            return [-4]
        par = ("|", self.conclusions[place], self.conclusions[place + 1])
        if is_too_great(par):
            return [-6]
        self.conclusions[place:place + 2] = [par]
        return [len(self.conclusions)]

    def call_bare(self):
        if not self.cuts:
            return [-4]
        tensor = ("*",) + self.cuts[0]
        if is_too_great(tensor):
            return [-6]
        if len(self.conclusions) == 20:
            return [-5]
        self.conclusions.append(tensor)
        self.cuts.pop(0)
        return [len(self.cuts)]

    def call_turn(self):
        if not self.conclusions:
            return [-4]
        first = self.conclusions.pop(0)
        self.conclusions.append(first)
        return [len(marked_atoms(first))]
