"""Formulas: their duals, their bounds, and how they are written.

A formula is the list of its nodes, each one ahead of those within it and the
first half ahead of the second. A node is the tuple of bytes that is written
for it: the sign of a tensor or a par, or an atom's form. So a walk from front
to back meets leaves and pars in the order in which they are numbered, and a
walk from back to front meets both halves of a formula ahead of it.
"""

TENSOR = (42,)
PAR = (124,)
TILDE = (126,)
LEFT = (40,)
RIGHT = (41,)

MOST_ATOMS = 60
MOST_DEPTH = 40


def is_atom(node):
    return node != TENSOR and node != PAR


def dual_node(node):
    if node == TENSOR:
        return PAR
    if node == PAR:
        return TENSOR
    if node[:1] == TILDE:
        return node[1:]
    return TILDE + node


def dual(formula):
    return [dual_node(node) for node in formula]


def atoms(formula):
    return [node for node in formula if is_atom(node)]


# The first and the second formula that a tensor or a par is of.
def two_of(formula):
    end = 1
    missing = 1
    while missing > 0:
        missing += -1 if is_atom(formula[end]) else 1
        end += 1
    return [formula[1:end], formula[end:]]


def depth(formula):
    depths = []
    for node in reversed(formula):
        if is_atom(node):
            depths.append(1)
        else:
            first = depths.pop()
            second = depths.pop()
            depths.append(1 + max(first, second))
    return depths[0]


def in_bounds(formula):
    return len(atoms(formula)) <= MOST_ATOMS and depth(formula) <= MOST_DEPTH


def written(formula):
    halves = []
    for node in reversed(formula):
        if is_atom(node):
            halves.append((node, list(node)))
        else:
            first = halves.pop()
            second = halves.pop()
            text = first_written(first) + list(node) + second_written(second, node)
            halves.append((node, text))
    return halves[0][1]


def first_written(half):
    if is_atom(half[0]):
        return half[1]
    return in_brackets(half[1])


def second_written(half, sign):
    if is_atom(half[0]) or half[0] == sign:
        return half[1]
    return in_brackets(half[1])


def in_brackets(text):
    return list(LEFT) + text + list(RIGHT)
