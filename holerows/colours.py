"""Spread sets, the counts of families whose points have colours, and colourings."""

from math import comb

from holerows.cascades import check_number, check_size, greatest_within
from holerows.errors import BadColours
from holerows.families import MOST_POINTS, check_family, outermost, points_in
from holerows.firsts import check_buildable, check_counts, sets_between
from holerows.values import are_integers_from, is_integer_from, is_one_of


def spread_cascade(number, size, r):
    """The spread cascade of a number for a size and r colours."""
    check_number(number)
    check_size(size)
    check_colours(r)
    if r < size:
        raise BadColours(r)
    tops = []
    rest = number
    # With each place one colour less is left; at the place 1 the greatest top is the rest itself.
    while rest > 0:
        place = size - len(tops)
        colours = r - len(tops)
        top = greatest_spread(rest, place, colours)
        tops.append(top)
        rest = rest - many_spread(top, place, colours)
    return tuple(tops)


def lower_spread(number, size, r):
    """The least number of sets one smaller within so many sets of a family with r colours."""
    tops = spread_cascade(number, size, r)
    return sum([many_spread(top, size - k - 1, r - k) for k, top in enumerate(tops)])


def judge_colours(counts, r):
    """A certificate that some family with r colours has these counts, or that none has."""
    return colours_certificates(counts, r)[0]


def colours_hold(counts, r, thing):
    """Whether any value is a certificate for the counts and r colours."""
    return is_one_of(thing, colours_certificates(counts, r))


def first_coloured(counts, r):
    """The family of the first spread sets of each size."""
    check_buildable(counts, judge_colours(counts, r))
    return outermost([face for k, many in enumerate(counts) for face in first_spread(k + 1, many, r)])


def is_colouring(family, r, thing):
    """Whether any value is one of r colours for each point, unlike ones within each face."""
    check_family(family)
    check_colours(r)
    if not are_integers_from(thing, 0) or len(thing) != len(points_in(family)):
        return False
    if not all([colour < r for colour in thing]):
        return False
    return all([len({thing[point] for point in facet}) == len(facet) for facet in family])


def a_colouring(family, r):
    """A colouring of the family with r colours, None if there is none."""
    check_family(family)
    check_colours(r)
    return coloured_on(family, r, ())


def check_colours(r):
    """Raises an error for any value that is no number of colours."""
    if not is_integer_from(r, 1):
        raise BadColours(r)


def many_spread(many, size, r):
    """The number of the spread sets of a size among so many first points."""
    # The first remainders are left by one point more than the others.
    each, more = divmod(many, r)
    return sum([
        comb(more, k) * power(each + 1, k) * comb(r - more, size - k) * power(each, size - k)
        for k in range(size + 1)
    ])


def greatest_spread(number, size, r):
    """The greatest number of points with no more spread sets of a size than a number from 1 on."""
    return greatest_within(number, size, lambda many: many_spread(many, size, r))


def power(number, times):
    """The product of so many times the number."""
    result = 1
    for _ in range(times):
        result = result * number
    return result


def colours_certificates(counts, r):
    """All certificates for the counts and r colours."""
    check_counts(counts)
    check_colours(r)
    places = range(1, len(counts))
    # No face has more points than there are colours, so such sizes have no lower number.
    lowers = [lower_spread(counts[k], k + 1, r) for k in places if k < r]
    faults = [("size", k) for k in places if k >= r or lowers[k - 1] > counts[k - 1]]
    if len(faults) > 0:
        return faults
    return [("fits", tuple(lowers))]


def first_spread(size, many, r):
    """The first spread sets of a size, so many, all of them of the first points."""
    sets = sets_between(size, 0, comb(MOST_POINTS, size))
    return [points for points in sets if len({point % r for point in points}) == size][:many]


def coloured_on(family, r, colours):
    """A colouring that begins with these colours of the first points, None if there is none."""
    point = len(colours)
    if point == len(points_in(family)):
        return colours
    near = points_in([facet for facet in family if point in facet])
    taken = [colour for other, colour in enumerate(colours) if other in near]
    # The colours that no point has yet are all alike: one of them is enough to try.
    fresh = max(colours, default=-1) + 1
    for colour in range(min(r, fresh + 1)):
        if colour not in taken:
            found = coloured_on(family, r, colours + (colour,))
            if found is not None:
                return found
    return None
