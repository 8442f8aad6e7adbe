"""The document's words done over again, slowly and in another way.

Formulas are nested tuples here, the reader calls itself, what is open is
counted place by place from where each sign begins and ends, and graphs are
walked from point to point.
"""

import itertools
import re

TOKEN = re.compile(rb"[a-z0-9]+|[~*|()]|-o")
NAME = re.compile(rb"[a-z][a-z0-9]{0,11}")
LINKS = re.compile(rb" *((0|[1-9][0-9]*)-(0|[1-9][0-9]*)( (0|[1-9][0-9]*)-(0|[1-9][0-9]*))*)? *")


class NoText(Exception):
    pass


def cut(text):
    tokens = []
    place = 0
    while place < len(text):
        if text[place:place + 1] == b" ":
            place += 1
            continue
        match = TOKEN.match(text, place)
        if match is None:
            raise NoText
        token = match.group()
        if token[:1].isalnum() and not NAME.fullmatch(token):
            raise NoText
        tokens.append(token)
        place = match.end()
    return tokens


def dual(formula):
    if formula[0] == "atom":
        return ("atom", formula[1], not formula[2])
    return ("|" if formula[0] == "*" else "*", dual(formula[1]), dual(formula[2]))


class Reader:
    def __init__(self, tokens):
        self.tokens = tokens + [b""]
        self.place = 0
        self.spans = []

    def formula(self):
        first = self.chain(None)
        if self.tokens[self.place] != b"-o":
            return first
        start = self.place
        self.place += 1
        second = self.formula()
        self.spans.append((start, self.place))
        return ("|", dual(first), second)

    def chain(self, sign):
        first = self.part()
        found = self.tokens[self.place]
        if found not in (b"*", b"|"):
            return first
        if sign not in (None, found):
            raise NoText
        start = self.place
        self.place += 1
        second = self.chain(found)
        self.spans.append((start, self.place))
        return (found.decode(), first, second)

    def part(self):
        token = self.tokens[self.place]
        start = self.place
        self.place += 1
        if token[:1].isalnum():
            return ("atom", token, False)
        if token == b"~":
            found = dual(self.part())
        elif token == b"(":
            found = self.formula()
            if self.tokens[self.place] != b")":
                raise NoText
            self.place += 1
        else:
            raise NoText
        self.spans.append((start, self.place))
        return found


def read_formula(text):
    if len(text) > 2000:
        raise NoText
    reader = Reader(cut(text))
    found = reader.formula()
    if reader.place != len(reader.tokens) - 1:
        raise NoText
    for place in range(reader.place):
        if sum(start <= place < end for start, end in reader.spans) > 100:
            raise NoText
    return found


def read_sequent(text):
    if not text.strip(b" "):
        return []
    pieces = text.split(b",")
    if len(pieces) > 20:
        raise NoText
    return [read_formula(piece) for piece in pieces]


def read_links(text):
    if not LINKS.fullmatch(text):
        raise NoText
    links = [tuple(int(end) for end in piece.split(b"-")) for piece in text.split()]
    lessers = [link[0] for link in links]
    if any(a >= b for a, b in links) or lessers != sorted(set(lessers)):
        raise NoText
    return links


def atoms(formula):
    return [formula] if formula[0] == "atom" else atoms(formula[1]) + atoms(formula[2])


def depth(formula):
    return 1 if formula[0] == "atom" else 1 + max(depth(formula[1]), depth(formula[2]))


def form(formula):
    if formula[0] == "atom":
        return b"~" * formula[2] + formula[1]
    first, second = form(formula[1]), form(formula[2])
    if formula[1][0] != "atom":
        first = b"(" + first + b")"
    if formula[2][0] not in ("atom", formula[0]):
        second = b"(" + second + b")"
    return first + formula[0].encode() + second


class Slow:
    """What set of a text makes; refusal is None if the text is taken."""

    def __init__(self, text):
        self.refusal = None
        try:
            pieces = bytes(text).split(b";")
            if len(pieces) != 3:
                raise NoText
            self.conclusions = read_sequent(pieces[0])
            self.cuts = read_sequent(pieces[1])
            self.links = read_links(pieces[2])
        except NoText:
            self.refusal = -1
            return
        self.formulas = self.conclusions + [half for cut in self.cuts for half in (cut, dual(cut))]
        self.leaves = [leaf for formula in self.formulas for leaf in atoms(formula)]
        ends = sorted(end for link in self.links for end in link)
        if any(len(atoms(formula)) > 60 or depth(formula) > 40 for formula in self.formulas):
            self.refusal = -6
        elif len(self.leaves) > 120:
            self.refusal = -5
        elif ends != list(range(len(self.leaves))):
            self.refusal = -3
        elif any(self.leaves[a] != dual(self.leaves[b]) for a, b in self.links):
            self.refusal = -3
        else:
            self.build()

    def build(self):
        self.points = []
        self.leaf_points = []
        self.pars = []
        self.edges = []
        wholes = [self.add(formula) for formula in self.formulas]
        behind = wholes[len(self.conclusions):]
        self.edges += list(zip(behind[::2], behind[1::2]))
        self.edges += [(self.leaf_points[a], self.leaf_points[b]) for a, b in self.links]

    def add(self, formula):
        point = len(self.points)
        self.points.append(formula[0])
        if formula[0] == "atom":
            self.leaf_points.append(point)
            return point
        number = len(self.pars)
        if formula[0] == "|":
            self.pars.append(None)
        halves = (self.add(formula[1]), self.add(formula[2]))
        if formula[0] == "|":
            self.pars[number] = (point, halves)
        else:
            self.edges += [(point, halves[0]), (point, halves[1])]
        return point

    def form(self):
        sequents = [b", ".join(form(formula) for formula in sequent) for sequent in (self.conclusions, self.cuts)]
        links = b" ".join(b"%d-%d" % link for link in self.links)
        return list(b" ; ".join(sequents + [links]))

    def size(self):
        return [len(self.conclusions), len(self.cuts), len(self.leaves), len(self.links),
                self.points.count("*"), self.points.count("|"), len(self.points)]

    def switch(self, switching):
        edges = self.edges + [(par, halves[side]) for (par, halves), side in zip(self.pars, switching)]
        near = {point: [] for point in range(len(self.points))}
        for a, b in edges:
            near[a].append(b)
            near[b].append(a)
        seen = set()
        parts = 0
        for start in near:
            if start not in seen:
                parts += 1
                waiting = [start]
                seen.add(start)
                while waiting:
                    fresh = [other for other in near[waiting.pop()] if other not in seen]
                    seen.update(fresh)
                    waiting += list(dict.fromkeys(fresh))
        # A graph without a circle has just as many edges as points less parts.
        return [int(len(edges) > len(self.points) - parts), parts]

    def first_bad(self):
        for switching in itertools.product((0, 1), repeat=len(self.pars)):
            if self.switch(switching) != [0, 1]:
                return list(switching)
        return None

    def draw(self):
        label = list(range(len(self.points)))

        def join(a, b):
            old, new = label[a], label[b]
            label[:] = [new if other == old else other for other in label]
            return old != new

        if not all([join(a, b) for a, b in self.edges]):
            return 0
        left = list(self.pars)
        while True:
            ready = [par for par in left if label[par[1][0]] == label[par[1][1]]]
            if not ready:
                return int(not left and len(set(label)) == 1)
            if not join(ready[-1][0], ready[-1][1][0]):
                return 0
            left.remove(ready[-1])
