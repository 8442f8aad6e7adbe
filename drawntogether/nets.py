"""The calls on one object that holds a structure, and their answers."""

from drawntogether.changes import with_conclusions_at, with_first_as_last, with_first_cut_as, with_partners_exchanged
from drawntogether.formulas import PAR, TENSOR, atoms, dual, in_bounds, two_of
from drawntogether.graphs import draws_together, first_bad, graph_of, switched
from drawntogether.reading import MOST_FORMULAS, read_pieces
from drawntogether.structures import MOST_LEAVES, Structure, all_formulas, leaves_of, nodes_of
from drawntogether.structures import partners_by, written_structure

FIRST_TEXT = "a, ~a ; ; 0-1"
MOST_PARS = 10

NOT_OF_ITS_KIND = -1
NOT_FITTING = -3
NOT_THERE = -4
TOO_MANY = -5
NOT_IN_BOUNDS = -6
TOO_MANY_PARS = -7


class Holder:
    def __init__(self):
        self.structure = Structure([], [], [])


# Below 0 Python would count from the end, which no call means.
def has_place(values, place):
    return 0 <= place < len(values)


# Each of the calls takes the holder and what is given to it, and gives back
# all numbers that it answers.
def set_text(holder, text):
    pieces = read_pieces(text)
    if pieces is None:
        return [NOT_OF_ITS_KIND]
    conclusions = pieces[0]
    cuts = pieces[1]
    if not all([in_bounds(formula) for formula in conclusions + cuts]):
        return [NOT_IN_BOUNDS]
    leaves = leaves_of(all_formulas(conclusions, cuts))
    if len(leaves) > MOST_LEAVES:
        return [TOO_MANY]
    partners = partners_by(pieces[2], leaves)
    if partners is None:
        return [NOT_FITTING]
    holder.structure = Structure(conclusions, cuts, partners)
    return [len(leaves)]


def tell_form(holder, given):
    text = written_structure(holder.structure)
    return [len(text)] + text


def tell_size(holder, given):
    structure = holder.structure
    nodes = nodes_of(structure.formulas())
    sequents = [len(structure.conclusions), len(structure.cuts)]
    leaves = [len(structure.partners), len(structure.links())]
    return sequents + leaves + [nodes.count(TENSOR), nodes.count(PAR), len(nodes)]


def tell_test(holder, given):
    graph = graph_of(holder.structure)
    if len(graph.pars) > MOST_PARS:
        return [TOO_MANY_PARS]
    return [1 if first_bad(graph) is None else 0]


def tell_bad(holder, given):
    graph = graph_of(holder.structure)
    if len(graph.pars) > MOST_PARS:
        return [TOO_MANY_PARS]
    switching = first_bad(graph)
    if switching is None:
        return [NOT_THERE]
    return [len(switching)] + switching + switched(graph, switching)


def tell_draw(holder, given):
    return [1 if draws_together(graph_of(holder.structure)) else 0]


def tell_switch(holder, switching):
    graph = graph_of(holder.structure)
    if len(switching) != len(graph.pars):
        return [NOT_OF_ITS_KIND]
    if not all([side in (0, 1) for side in switching]):
        return [NOT_OF_ITS_KIND]
    return switched(graph, switching)


def tell_partner(holder, given):
    partners = holder.structure.partners
    if not has_place(partners, given[0]):
        return [NOT_THERE]
    return [partners[given[0]]]


def swap_partners(holder, given):
    structure = holder.structure
    leaf = given[0]
    other = given[1]
    leaves = leaves_of(structure.formulas())
    if not has_place(leaves, leaf) or not has_place(leaves, other):
        return [NOT_THERE]
    if leaves[leaf] != leaves[other]:
        return [NOT_FITTING]
    holder.structure = with_partners_exchanged(structure, leaf, other)
    return [1 if holder.structure.partners != structure.partners else 0]


def open_par(holder, given):
    place = given[0]
    conclusions = holder.structure.conclusions
    if not has_place(conclusions, place):
        return [NOT_THERE]
    if conclusions[place][0] != PAR:
        return [NOT_FITTING]
    if len(conclusions) + 1 > MOST_FORMULAS:
        return [TOO_MANY]
    holder.structure = with_conclusions_at(holder.structure, place, 1, two_of(conclusions[place]))
    return [len(holder.structure.conclusions)]


def shut_two(holder, given):
    place = given[0]
    conclusions = holder.structure.conclusions
    if not has_place(conclusions, place) or not has_place(conclusions, place + 1):
        return [NOT_THERE]
    par = [PAR] + conclusions[place] + conclusions[place + 1]
    if not in_bounds(par):
        return [NOT_IN_BOUNDS]
    holder.structure = with_conclusions_at(holder.structure, place, 2, [par])
    return [len(holder.structure.conclusions)]


def bare_cut(holder, given):
    structure = holder.structure
    if not structure.cuts:
        return [NOT_THERE]
    tensor = [TENSOR] + structure.cuts[0] + dual(structure.cuts[0])
    if not in_bounds(tensor):
        return [NOT_IN_BOUNDS]
    if len(structure.conclusions) + 1 > MOST_FORMULAS:
        return [TOO_MANY]
    holder.structure = with_first_cut_as(structure, tensor)
    return [len(holder.structure.cuts)]


def turn_conclusions(holder, given):
    structure = holder.structure
    if not structure.conclusions:
        return [NOT_THERE]
    holder.structure = with_first_as_last(structure)
    return [len(atoms(structure.conclusions[0]))]


# The calls that are given a row, set and switch.
WITH_ROW = (0, 6)
# How many numbers the others are given, where they are given any.
GIVEN_NUMBERS = {7: 1, 8: 2, 9: 1, 10: 1}
ANSWERERS = {
    0: set_text,
    1: tell_form,
    2: tell_size,
    3: tell_test,
    4: tell_bad,
    5: tell_draw,
    6: tell_switch,
    7: tell_partner,
    8: swap_partners,
    9: open_par,
    10: shut_two,
    11: bare_cut,
    12: turn_conclusions,
}


# For each call its number and the row or the numbers that are given to it.
def split_calls(calls):
    found = []
    place = 0
    while place < len(calls):
        number = calls[place]
        start = place + 1
        end = start + GIVEN_NUMBERS.get(number, 0)
        if number in WITH_ROW:
            start = place + 2
            end = start + calls[place + 1]
        found.append((number, calls[start:end]))
        place = end
    return found


def new_holder():
    holder = Holder()
    set_text(holder, [ord(sign) for sign in FIRST_TEXT])
    return holder


def answers(calls):
    holder = new_holder()
    told = []
    for number, given in split_calls(calls):
        answerer = ANSWERERS[number]
        answer = answerer(holder, given)
        told.append(len(answer))
        told.extend(answer)
    return told
