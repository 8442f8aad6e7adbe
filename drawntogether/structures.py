"""Structures: conclusions, cuts and links, and how they are written."""

from drawntogether.formulas import atoms, dual, dual_node, written

MOST_LEAVES = 120

BETWEEN_FORMULAS = (44, 32)
BETWEEN_PIECES = (32, 59, 32)
BETWEEN_LINKS = (32,)


# For each leaf its partner; None if the links don't part the leaves into pairs.
def partners_by(links, leaves):
    partners = [None for leaf in leaves]
    for lesser, greater in links:
        if greater >= len(leaves):
            return None
        if partners[lesser] is not None or partners[greater] is not None:
            return None
        if leaves[lesser] != dual_node(leaves[greater]):
            return None
        partners[lesser] = greater
        partners[greater] = lesser
    return None if None in partners else partners


def nodes_of(formulas):
    nodes = []
    for formula in formulas:
        nodes.extend(formula)
    return nodes


def all_formulas(conclusions, cuts):
    formulas = list(conclusions)
    for cut in cuts:
        formulas.append(cut)
        formulas.append(dual(cut))
    return formulas


def leaves_of(formulas):
    return atoms(nodes_of(formulas))


class Structure:
    # It is never changed once it is made: another one takes its place.

    def __init__(self, conclusions, cuts, partners):
        self.conclusions = conclusions
        self.cuts = cuts
        self.partners = partners

    def formulas(self):
        return all_formulas(self.conclusions, self.cuts)

    # Each pair once, by rising lesser numbers.
    def links(self):
        return [(leaf, other) for leaf, other in enumerate(self.partners) if leaf < other]


def joined_texts(texts, between):
    whole = []
    for place, text in enumerate(texts):
        if place > 0:
            whole.extend(between)
        whole.extend(text)
    return whole


def written_sequent(sequent):
    return joined_texts([written(formula) for formula in sequent], BETWEEN_FORMULAS)


def written_link(link):
    return [ord(sign) for sign in str(link[0]) + "-" + str(link[1])]


def written_structure(structure):
    conclusions = written_sequent(structure.conclusions)
    cuts = written_sequent(structure.cuts)
    links = joined_texts([written_link(link) for link in structure.links()], BETWEEN_LINKS)
    return joined_texts([conclusions, cuts, links], BETWEEN_PIECES)
