"""Counts and holes that some family has, and the near-cone that has them."""

from holerows.cascades import lower_sets
from holerows.errors import BadHoles
from holerows.families import outermost
from holerows.firsts import check_buildable, check_some_counts, sets_between
from holerows.values import are_integers_from, is_one_of


def rests_of(counts, holes):
    """The rests of counts and holes."""
    check_some_counts(counts)
    if not is_holes_for(counts, holes):
        raise BadHoles(holes)
    rests = [0]
    for k in reversed(range(len(counts))):
        rests.append(counts[k] - holes[k] - rests[-1])
    return tuple(rests[::-1])


def judge_rows(counts, holes):
    """A certificate that some family has these counts and holes, or that none has."""
    return rows_certificates(counts, holes)[0]


def rows_hold(counts, holes, thing):
    """Whether any value is a certificate for the counts and holes."""
    return is_one_of(thing, rows_certificates(counts, holes))


def near_cone(counts, holes):
    """The family of first sets with and without the point 0, and of the lids."""
    rests = fitting_rests(counts, holes)
    faces = [(0,)]
    for size in range(1, len(counts)):
        faces.extend([(0,) + face for face in sets_above_0(size, 0, rests[size])])
    return outermost(faces + lids_behind(rests, holes))


def lids_of(counts, holes):
    """The faces of the near-cone that make no face together with 0 and do not have it."""
    rests = fitting_rests(counts, holes)
    return tuple(sorted(lids_behind(rests, holes)))


def is_holes_for(counts, thing):
    """Whether any value is holes for the counts."""
    return are_integers_from(thing, 0) and len(thing) == len(counts)


def rows_certificates(counts, holes):
    """All certificates for the counts and holes."""
    rests = rests_of(counts, holes)
    faults = [("below", k) for k, rest in enumerate(rests) if rest < 0]
    if rests[0] != 1:
        faults.append(("sum", rests[0]))
    faults.extend([("size", k) for k in range(1, len(counts)) if is_overfull(rests, holes, k)])
    if len(faults) > 0:
        return faults
    return [("fits", rests)]


def is_overfull(rests, holes, k):
    """Whether the rest at k has too few sets of k points for the sets of k + 1 points."""
    if rests[k] < 0 or rests[k + 1] < 0:
        return False
    return lower_sets(rests[k + 1] + holes[k], k + 1) > rests[k]


def fitting_rests(counts, holes):
    """The rests of counts and holes that some family of few points has."""
    certificate = judge_rows(counts, holes)
    check_buildable(counts, certificate)
    return certificate[1]


def lids_behind(rests, holes):
    """The list of the sets of each size that follow those counted by the rests."""
    lids = []
    for k, many in enumerate(holes):
        lids.extend(sets_above_0(k + 1, rests[k + 1], rests[k + 1] + many))
    return lids


def sets_above_0(size, start, end):
    """The list of the sets of the points 1, 2, 3, .. with the numbers from start to end - 1."""
    return [tuple([point + 1 for point in points]) for points in sets_between(size, start, end)]
