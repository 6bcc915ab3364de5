"""The most holes that counts let, the fewest faces that holes need, and rows of joins."""

from holerows.cascades import lower_sets
from holerows.errors import BadHoles, TooMany
from holerows.firsts import MOST_COUNTS, check_counts, check_fit, check_some_counts
from holerows.rows import is_holes_for, judge_rows
from holerows.values import are_integers_from


def least_rests(counts):
    """The least rests that the holes of families with these counts have."""
    check_some_counts(counts)
    check_fit(counts)
    return (1,) + tuple([least_rest(counts[k], k + 1) for k in range(1, len(counts))]) + (0,)


def most_holes(counts):
    """The most holes of each dimension, which one family with these counts has at once."""
    return holes_with(counts, least_rests(counts))


def least_holes(counts):
    """For each dimension alone the least number of holes that a family with these counts has."""
    least = least_rests(counts)
    lefts = greatest_rests(counts, least)
    # What the counts above let stand at k + 1, as lefts tells what the counts below let stand at k.
    rights = [many - rest for many, rest in zip(counts[1:], least[2:])] + [0]
    return tuple([max(0, many - lefts[k] - rights[k]) for k, many in enumerate(counts)])


def has_hole_row(counts, thing):
    """Whether any value is the holes of some family with these counts."""
    check_some_counts(counts)
    check_fit(counts)
    return is_holes_for(counts, thing) and judge_rows(counts, thing)[0] == "fits"


def many_hole_rows(counts):
    """How many different holes the families with these counts have."""
    least = least_rests(counts)
    # The rest at d is 0, and at each place the sum so far over the rests there from the least one on.
    sums = [1]
    for k in reversed(range(1, len(counts))):
        total = 0
        following = []
        for rest in range(least[k], counts[k] - least[k + 1] + 1):
            total = total + sums[min(counts[k] - rest - least[k + 1], len(sums) - 1)]
            following.append(total)
        sums = following
    return sums[min(counts[0] - 1 - least[1], len(sums) - 1)]


def all_hole_rows(counts, *, most=200):
    """The ascending tuple of the holes that the families with these counts have."""
    if many_hole_rows(counts) > most:
        raise TooMany(most)
    least = least_rests(counts)
    greatest = greatest_rests(counts, least)
    rows = [(0,)]
    for k in reversed(range(len(counts))):
        # Up to the greatest rest each row can be gone on with, so there are never more than at the end.
        rows = [
            (rest,) + row
            for row in rows
            for rest in range(least[k], min(greatest[k], counts[k] - row[0]) + 1)
        ]
    return tuple(sorted([holes_with(counts, row) for row in rows]))


def least_counts(holes):
    """The fewest faces of each size, which one family with these holes has at once."""
    if not are_some_holes(holes) or (len(holes) > 0 and holes[-1] == 0):
        raise BadHoles(holes)
    if len(holes) == 0:
        return (1,)
    rests = [0]
    for k in reversed(range(1, len(holes))):
        rests.append(lower_sets(rests[-1] + holes[k], k + 1))
    rests.append(1)
    rests = rests[::-1]
    return tuple([rests[k] + rests[k + 1] + many for k, many in enumerate(holes)])


def join_counts(one, other):
    """The counts of the join of families with these counts."""
    check_counts(one)
    check_counts(other)
    return products_of((1,) + one, (1,) + other)[1:]


def join_holes(one, other):
    """The holes of the join of families with points that have these holes."""
    for holes in (one, other):
        if not are_some_holes(holes) or len(holes) == 0:
            raise BadHoles(holes)
    return (0,) + products_of(one, other)


def are_some_holes(thing):
    """Whether any value is a tuple of at most 16 integers from 0 on."""
    return are_integers_from(thing, 0) and len(thing) <= MOST_COUNTS


def holes_with(counts, rests):
    """The holes that the counts leave with these rests."""
    return tuple([many - rests[k] - rests[k + 1] for k, many in enumerate(counts)])


def greatest_rests(counts, least):
    """For each place below d the greatest rest that the count ahead of it lets."""
    return (1,) + tuple([many - rest for many, rest in zip(counts[:-1], least)])


def least_rest(many, size):
    """The least c for which the lower number of many - c sets of a size is at most c."""
    low = 0
    high = many
    while low < high:
        middle = (low + high) // 2
        if lower_sets(many - middle, size) <= middle:
            high = middle
        else:
            low = middle + 1
    return low


def products_of(one, other):
    """For each sum of positions in two rows the sum of the products of what stands there."""
    total = [0] * (len(one) + len(other) - 1)
    for i, number in enumerate(one):
        for j, times in enumerate(other):
            total[i + j] = total[i + j] + number * times
    return tuple(total)
