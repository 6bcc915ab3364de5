"""Chains of faces, their rims, and which cycles are filled and which are cut."""

from holerows.cascades import check_size
from holerows.errors import BadChain
from holerows.families import check_family, faces_at, is_face_within
from holerows.fields import check_field, is_number
from holerows.values import is_just, is_rising
from holerows.vectors import basis_of, cleaned, cut_at, lessened, places_of, product_sum, scaled


def is_chain(family, p, size, thing):
    """Whether any value is a chain of the size."""
    check_family(family)
    check_field(p)
    check_size(size)
    return is_chain_of(family, p, size, thing)


def rim_of(family, p, chain):
    """The chain of the sums over all faces that become one face if a point is left out."""
    check_chain(family, p, chain)
    return chain_of(rim_vector(vector_of(chain), p))


def is_cycle(family, p, chain):
    """Whether the rim of a chain is ()."""
    return len(rim_of(family, p, chain)) == 0


def judge_cycle(family, p, chain):
    """A certificate that a cycle is filled, or that it is cut."""
    check_cycle(family, p, chain)
    size = len(chain[0][0])
    basis, _ = basis_of(marked_rims(family, p, size + 1), size, p)
    # The mark at () counts how often the cycle was taken away; it is no face of the sizes at hand.
    marked = vector_of(chain + (((), -1),))
    rest = lessened(cleaned(marked, p), basis, p)
    places = places_of(rest, size)
    if len(places) > 0:
        return ("cut", chain_of(cut_at(basis, places[0], p)))
    return ("fills", rest[()], chain_of({face: rest[face] for face in places_of(rest, size + 1)}))


def cycle_holds(family, p, chain, thing):
    """Whether any value is a certificate for the cycle."""
    check_cycle(family, p, chain)
    if not isinstance(thing, tuple):
        return False
    if len(thing) == 3 and is_just(thing[0], "fills"):
        return is_filling(family, p, chain, thing[1], thing[2])
    if len(thing) == 2 and is_just(thing[0], "cut"):
        return is_met_cut(family, p, chain, thing[1])
    return False


def is_filling(family, p, cycle, times, thing):
    """Whether the rim of any value, a chain of one size more, is so many times the cycle."""
    if not is_number(p, times) or not is_chain_of(family, p, len(cycle[0][0]) + 1, thing):
        return False
    return rim_vector(vector_of(thing), p) == scaled(vector_of(cycle), times, p)


def is_met_cut(family, p, cycle, thing):
    """Whether any value is a cut that the cycle meets."""
    size = len(cycle[0][0])
    if not is_chain_of(family, p, size, thing):
        return False
    return is_cut(family, p, size, thing) and product_sum(vector_of(cycle), vector_of(thing), p) != 0


def is_cut(family, p, size, chain):
    """Whether a chain of a size has the product sum 0 with the rims of all faces of one size more."""
    cut = vector_of(chain)
    return all([product_sum(rim, cut, p) == 0 for rim in face_rims(family, p, size + 1)])


def is_chain_of(family, p, size, thing):
    """Whether any value is a chain of the size, of a family and a field that are right."""
    return is_weighed(family, p, thing) and all([len(part[0]) == size for part in thing])


def is_weighed(family, p, thing):
    """Whether any value is an ascending tuple of pairs of a face and a number."""
    if not isinstance(thing, tuple) or not all([is_weight(family, p, part) for part in thing]):
        return False
    return is_rising([part[0] for part in thing])


def is_weight(family, p, thing):
    """Whether any value is a pair of a face and a number of p other than 0."""
    if not isinstance(thing, tuple) or len(thing) != 2:
        return False
    return is_face_within(family, thing[0]) and is_number(p, thing[1])


def check_chain(family, p, chain):
    """Raises an error for a wrong family or field, and any value that is no chain of any size."""
    check_family(family)
    check_field(p)
    if not is_weighed(family, p, chain):
        raise BadChain(chain)
    sizes = sorted({len(part[0]) for part in chain})
    if len(sizes) > 1 or 0 in sizes:
        raise BadChain(chain)


def check_cycle(family, p, chain):
    """Raises an error as for chains, and for any value that is no cycle, or ()."""
    if not is_cycle(family, p, chain) or len(chain) == 0:
        raise BadChain(chain)


def vector_of(chain):
    """The vector of a chain."""
    return {face: number for face, number in chain}


def chain_of(vector):
    """The chain that has this vector."""
    return tuple(sorted(vector.items()))


def rim_vector(vector, p):
    """The vector of the rim of a chain that is told as a vector."""
    total = {}
    for face, number in vector.items():
        sign = 1
        for k in range(len(face)):
            part = face[:k] + face[k + 1:]
            total[part] = total.get(part, 0) + sign * number
            sign = -sign
    return cleaned(total, p)


def face_rims(family, p, size):
    """The vectors of the rims of all faces of a size."""
    return [rim_vector({face: 1}, p) for face in faces_at(family, size)]


def marked_rims(family, p, size):
    """The vectors of the rims of all faces of a size, each with its face as a mark."""
    marked = []
    for face in faces_at(family, size):
        vector = rim_vector({face: 1}, p)
        vector[face] = 1
        marked.append(vector)
    return marked
