"""Changes of a structure: each gives back another one and leaves it as it was."""

from drawntogether.formulas import atoms
from drawntogether.structures import Structure, leaves_of


# Other formulas stand in the place of so many conclusions from a place on.
# They must have the same leaves in the same order, since the links stay.
def with_conclusions_at(structure, place, count, formulas):
    before = structure.conclusions[:place]
    behind = structure.conclusions[place + count:]
    return Structure(before + formulas + behind, structure.cuts, structure.partners)


# The first cut goes, and a formula that has its leaves stands in its place,
# just ahead of the other cuts.
def with_first_cut_as(structure, formula):
    return Structure(structure.conclusions + [formula], structure.cuts[1:], structure.partners)


def with_partners_exchanged(structure, leaf, other):
    leaf_partner = structure.partners[leaf]
    other_partner = structure.partners[other]
    partners = list(structure.partners)
    partners[leaf] = other_partner
    partners[other_partner] = leaf
    partners[other] = leaf_partner
    partners[leaf_partner] = other
    return Structure(structure.conclusions, structure.cuts, partners)


def with_first_as_last(structure):
    first = structure.conclusions[0]
    moved = len(atoms(first))
    turning = len(leaves_of(structure.conclusions))
    renumbered = list(structure.partners)
    for leaf, other in enumerate(structure.partners):
        renumbered[leaf_behind_turn(leaf, moved, turning)] = leaf_behind_turn(other, moved, turning)
    return Structure(structure.conclusions[1:] + [first], structure.cuts, renumbered)


# The number that a leaf gets if the moved first ones of the turning leaves,
# those of the conclusions, go behind the others; leaves of cuts keep theirs.
def leaf_behind_turn(leaf, moved, turning):
    if leaf >= turning:
        return leaf
    return (leaf - moved) % turning
