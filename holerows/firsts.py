"""Sets in the order of their greatest points, and the counts that some family has."""

from math import comb

from holerows.cascades import cascade_of, check_number, check_size, lower_sets
from holerows.errors import BadCounts, BadSet, BadSets, NotFit, TooGreat
from holerows.families import MOST_POINTS, is_set, outermost
from holerows.values import are_integers_from, is_one_of

MOST_COUNTS = 16


def set_number(points):
    """The number of a set other than () among the sets of its size."""
    if not is_set(points) or len(points) == 0:
        raise BadSet(points)
    return sum([comb(point, k) for k, point in enumerate(points, start=1)])


def set_at(size, number):
    """The set of a size that has this number."""
    check_size(size)
    cascade = cascade_of(number, size)
    # Below the cascade nothing is left to count, so the least points stand there.
    return tuple(range(size - len(cascade))) + cascade[::-1]


def first_sets(size, many):
    """The first sets of a size, so many, in their order."""
    check_size(size)
    check_number(many)
    return sets_between(size, 0, many)


def shadow_of(sets):
    """The sets with one point less that lie within sets of one size."""
    if not are_like_sets(sets):
        raise BadSets(sets)
    return tuple(sorted({points[:k] + points[k + 1:] for points in sets for k in range(len(points))}))


def is_counts(thing):
    """Whether any value is counts."""
    return are_integers_from(thing, 1) and len(thing) <= MOST_COUNTS


def judge_counts(counts):
    """A certificate that some family has these counts, or that none has."""
    return counts_certificates(counts)[0]


def counts_hold(counts, thing):
    """Whether any value is a certificate for the counts."""
    return is_one_of(thing, counts_certificates(counts))


def first_family(counts):
    """The family of the first sets of each size."""
    check_buildable(counts, judge_counts(counts))
    return outermost([face for k, many in enumerate(counts) for face in sets_between(k + 1, 0, many)])


def sets_between(size, start, end):
    """The sets of a size with the numbers from start to end - 1, in their order."""
    return tuple([set_at(size, number) for number in range(start, end)])


def are_like_sets(thing):
    """Whether any value is a tuple of sets of one size, at least 1."""
    if not isinstance(thing, tuple) or not all([is_set(part) for part in thing]):
        return False
    return all([len(part) > 0 and len(part) == len(thing[0]) for part in thing])


def check_counts(counts):
    """Raises an error for any value that is no counts."""
    if not is_counts(counts):
        raise BadCounts(counts)


def check_some_counts(counts):
    """Raises an error for any value that is no counts, and for ()."""
    if not is_counts(counts) or len(counts) == 0:
        raise BadCounts(counts)


def check_fit(counts):
    """Raises an error for any value that is no counts, and for counts that no family has."""
    certificate = judge_counts(counts)
    if certificate[0] != "fits":
        raise NotFit(certificate)


def check_buildable(counts, certificate):
    """Raises an error if a certificate stands against the counts, or if they ask for too many points."""
    if certificate[0] != "fits":
        raise NotFit(certificate)
    if len(counts) > 0 and counts[0] > MOST_POINTS:
        raise TooGreat(counts[0])


def counts_certificates(counts):
    """All certificates for the counts."""
    check_counts(counts)
    places = range(1, len(counts))
    lowers = tuple([lower_sets(counts[k], k + 1) for k in places])
    faults = [("size", k) for k in places if lowers[k - 1] > counts[k - 1]]
    if len(faults) > 0:
        return faults
    return [("fits", lowers)]
