"""The calls on one object that holds a structure, and their answers."""

from drawntogether.formulas import PAR, TENSOR, in_bounds
from drawntogether.graphs import draws_together, first_bad, graph_of, switched
from drawntogether.reading import read_pieces
from drawntogether.structures import MOST_LEAVES, Structure, all_formulas, leaves_of, nodes_of
from drawntogether.structures import partners_by, written_structure

FIRST_TEXT = "a, ~a ; ; 0-1"
MOST_PARS = 10

NOT_OF_ITS_KIND = -1
NOT_FITTING = -3
NOT_THERE = -4
TOO_MANY = -5
NOT_IN_BOUNDS = -6
TOO_MANY_PARS = -7


class Holder:
    def __init__(self):
        self.structure = Structure([], [], [])


# Each of the calls takes the holder and what is given to it, and gives back
# all numbers that it answers.
def set_text(holder, text):
    pieces = read_pieces(text)
    if pieces is None:
        return [NOT_OF_ITS_KIND]
    conclusions = pieces[0]
    cuts = pieces[1]
    if not all([in_bounds(formula) for formula in conclusions + cuts]):
        return [NOT_IN_BOUNDS]
    leaves = leaves_of(all_formulas(conclusions, cuts))
    if len(leaves) > MOST_LEAVES:
        return [TOO_MANY]
    partners = partners_by(pieces[2], leaves)
    if partners is None:
        return [NOT_FITTING]
    holder.structure = Structure(conclusions, cuts, partners)
    return [len(leaves)]


def tell_form(holder, given):
    text = written_structure(holder.structure)
    return [len(text)] + text


def tell_size(holder, given):
    structure = holder.structure
    nodes = nodes_of(structure.formulas())
    sequents = [len(structure.conclusions), len(structure.cuts)]
    leaves = [len(structure.partners), len(structure.links())]
    return sequents + leaves + [nodes.count(TENSOR), nodes.count(PAR), len(nodes)]


def tell_test(holder, given):
    graph = graph_of(holder.structure)
    if len(graph.pars) > MOST_PARS:
        return [TOO_MANY_PARS]
    return [1 if first_bad(graph) is None else 0]


def tell_bad(holder, given):
    graph = graph_of(holder.structure)
    if len(graph.pars) > MOST_PARS:
        return [TOO_MANY_PARS]
    switching = first_bad(graph)
    if switching is None:
        return [NOT_THERE]
    return [len(switching)] + switching + switched(graph, switching)


def tell_draw(holder, given):
    return [1 if draws_together(graph_of(holder.structure)) else 0]


def tell_switch(holder, switching):
    graph = graph_of(holder.structure)
    if len(switching) != len(graph.pars):
        return [NOT_OF_ITS_KIND]
    if not all([side in (0, 1) for side in switching]):
        return [NOT_OF_ITS_KIND]
    return switched(graph, switching)


# The calls that are given a row, set and switch.
WITH_ROW = (0, 6)
ANSWERERS = {
    0: set_text,
    1: tell_form,
    2: tell_size,
    3: tell_test,
    4: tell_bad,
    5: tell_draw,
    6: tell_switch,
}


# For each call its number and the row that is given to it.
def split_calls(calls):
    found = []
    place = 0
    while place < len(calls):
        number = calls[place]
        start = place + 1
        end = start
        if number in WITH_ROW:
            start = place + 2
            end = start + calls[place + 1]
        found.append((number, calls[start:end]))
        place = end
    return found


def new_holder():
    holder = Holder()
    set_text(holder, [ord(sign) for sign in FIRST_TEXT])
    return holder


def answers(calls):
    holder = new_holder()
    told = []
    for number, given in split_calls(calls):
        answerer = ANSWERERS[number]
        answer = answerer(holder, given)
        told.append(len(answer))
        told.extend(answer)
    return told
