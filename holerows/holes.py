"""The holes of told families over a field, and cycles and cuts that show them."""

from holerows.cascades import check_size
from holerows.chains import (
    chain_of,
    face_rims,
    is_chain_of,
    is_cut,
    marked_rims,
    rim_vector,
    vector_of,
)
from holerows.families import check_family, faces_at, greatest_size
from holerows.fields import check_field
from holerows.vectors import basis_of, cut_at, lessened, product_sum


def holes_of(family, p):
    """The numbers of holes of the dimensions from 0 to the greatest size less 1."""
    check_family(family)
    check_field(p)
    return tuple([many_holes(family, p, size) for size in range(1, greatest_size(family) + 1)])


def hole_pairs(family, p, size):
    """(cycles, cuts) that show all holes of the dimension size - 1."""
    check_place(family, p, size)
    _, cycles = basis_of(marked_rims(family, p, size), size - 1, p)
    rims, _ = basis_of(face_rims(family, p, size + 1), size, p)
    # Each hole has a place of its own: there its cycle is not 0, and the other cycles are.
    shown, _ = basis_of([lessened(cycle, rims, p) for cycle in cycles], size, p)
    cuts = [chain_of(cut_at(rims, place, p)) for place in shown]
    return tuple([chain_of(cycle) for cycle in shown.values()]), tuple(cuts)


def pairs_hold(family, p, size, thing):
    """Whether any value is (cycles, cuts) that show as many holes as there are."""
    check_place(family, p, size)
    if not isinstance(thing, tuple) or len(thing) != 2:
        return False
    many = many_holes(family, p, size)
    if not all([isinstance(part, tuple) and len(part) == many for part in thing]):
        return False
    if not all([is_chain_of(family, p, size, chain) for part in thing for chain in part]):
        return False
    cycles, cuts = thing
    if not all([len(rim_vector(vector_of(cycle), p)) == 0 for cycle in cycles]):
        return False
    return all([is_cut(family, p, size, cut) for cut in cuts]) and are_matched(cycles, cuts, p)


def are_matched(cycles, cuts, p):
    """Whether each cycle meets just the cut at its own position."""
    meets = [[product_sum(vector_of(cycle), vector_of(cut), p) != 0 for cut in cuts] for cycle in cycles]
    return all([met == (i == j) for i, row in enumerate(meets) for j, met in enumerate(row)])


def check_place(family, p, size):
    """Raises an error for a wrong family, field or size."""
    check_family(family)
    check_field(p)
    check_size(size)


def many_holes(family, p, size):
    """The number of holes of the dimension size - 1."""
    return len(faces_at(family, size)) - rank_of_rims(family, p, size) - rank_of_rims(family, p, size + 1)


def rank_of_rims(family, p, size):
    """The number of independent rims of chains of a size."""
    basis, _ = basis_of(face_rims(family, p, size), size - 1, p)
    return len(basis)
