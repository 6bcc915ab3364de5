"""Families with the holes of spheres about each face, and the counts that they have."""

from itertools import combinations
from math import comb

from holerows.builds import link_within
from holerows.cascades import check_number
from holerows.errors import BadFamily, BadNumber, BadSize
from holerows.families import check_family, faces_at, greatest_size
from holerows.fields import check_field
from holerows.firsts import check_buildable, check_some_counts
from holerows.holes import many_holes
from holerows.productrows import first_order, h_row, moved_row, row_certificates
from holerows.values import is_integer_from, is_one_of


def is_round(family, p):
    """Whether the link of each face, and the family, has the holes of a sphere over p."""
    return judge_round(family, p) == ("round",)


def judge_round(family, p):
    """A certificate that the family is round over p, or that it is not."""
    return round_certificates(family, p)[0]


def round_holds(family, p, thing):
    """Whether any value is a certificate for the family over p."""
    return is_one_of(thing, round_certificates(family, p))


def judge_sphere(counts):
    """A certificate that some round family has these counts, or that none has."""
    return sphere_certificates(counts)[0]


def sphere_holds(counts, thing):
    """Whether any value is a certificate for the counts."""
    return is_one_of(thing, sphere_certificates(counts))


def first_ball(counts):
    """The facets of the ball that the first sphere bounds, one for each product of the first order."""
    certificate = judge_sphere(counts)
    check_buildable(counts, certificate)
    return tuple(sorted([ball_facet(product, len(counts)) for product in first_order(certificate[1])]))


def first_sphere(counts):
    """The round family of the sets that lie within just one facet of the first ball."""
    sets = [part for facet in first_ball(counts) for part in combinations(facet, len(counts))]
    return tuple([part for part in sorted(sets) if sets.count(part) == 1])


def least_sphere(n, d):
    """The fewest faces of each size that a round family of n points has, whose facets have d points."""
    check_ends(n, d)
    return counts_with(d, (1, n - d - 1) + (0,) * (d // 2 - 1))


def most_sphere(n, d):
    """The most faces of each size that a round family of n points has, whose facets have d points."""
    check_ends(n, d)
    return counts_with(d, (1,) + tuple([comb(n - d - 2 + k, k) for k in range(1, d // 2 + 1)]))


def check_ends(n, d):
    """Raises an error for a number of points or a size that no such round family has."""
    check_number(n)
    if not is_integer_from(d, 2):
        raise BadSize(d)
    if n <= d:
        raise BadNumber(n)


def round_certificates(family, p):
    """All certificates for the family over p."""
    check_family(family)
    if len(family) == 0:
        raise BadFamily(family)
    check_field(p)
    greatest = greatest_size(family)
    faults = []
    for size in range(greatest):
        for face in faces_at(family, size):
            _, link = link_within(family, face)
            if not has_round_holes(link, greatest - size, p):
                faults.append(("face", face))
    if len(faults) > 0:
        return faults
    return [("round",)]


def has_round_holes(family, size, p):
    """Whether all facets have so many points, and the only hole is one of the greatest dimension."""
    # The family () has no facets of another size, but it has no hole either.
    if not all([len(facet) == size for facet in family]):
        return False
    holes = [many_holes(family, p, k) for k in range(1, size + 1)]
    return sum(holes[:-1]) == 0 and holes[-1] == 1


def sphere_certificates(counts):
    """All certificates for the counts."""
    check_some_counts(counts)
    row = h_row(counts)
    last = len(counts)
    unequal = [("unequal", i) for i in range((last + 1) // 2) if row[i] != row[last - i]]
    if len(unequal) > 0:
        return unequal
    steps = (1,) + tuple([row[i] - row[i - 1] for i in range(1, last // 2 + 1)])
    below = [("below", i) for i, step in enumerate(steps) if step < 0]
    if len(below) > 0:
        return below
    certificates = row_certificates(steps)
    if certificates[0][0] != "fits":
        return certificates
    return [("fits", steps)]


def ball_facet(product, size):
    """The facet of the first ball for a product: least points, and pairs of neighbours moved by letters."""
    pairs = size // 2
    start = size + 1 - 2 * pairs
    facet = list(range(start))
    moves = [0] * (pairs - len(product)) + [letter + 1 for letter in product]
    for k, move in enumerate(moves):
        low = start + 2 * k + move
        facet.extend([low, low + 1])
    return tuple(facet)


def counts_with(d, steps):
    """The counts of facets of d points whose row h rises by these steps up to its middle and falls alike."""
    row = [sum(steps[:k + 1]) for k in range(len(steps))]
    back = row[:d + 1 - len(row)]
    return moved_row(tuple(row + back[::-1]), 1)[1:]
