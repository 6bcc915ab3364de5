"""Families of sets: their faces, counts, parts and texts."""

from itertools import combinations

from holerows.errors import BadFamily, BadSets, BadSize, BadText
from holerows.values import are_integers_from, is_integer_from, is_rising

MOST_POINTS = 9
DIGITS = "0123456789"


def is_set(thing):
    """Whether any value is a set, that is an ascending tuple of points."""
    return are_integers_from(thing, 0) and is_rising(thing)


def is_family(thing):
    """Whether any value is a family, told by its facets."""
    # A tuple with bools can equal one with integers: the kinds of all parts are looked at first.
    return are_first_sets(thing) and outermost(thing) == thing


def family_of(sets):
    """The family whose faces are the sets that lie within the told ones."""
    if not are_first_sets(sets):
        raise BadSets(sets)
    return outermost(sets)


def counts_of(family):
    """The numbers of faces of the sizes from 1 up to the greatest one."""
    check_family(family)
    return tuple([len(faces_within(family, size)) for size in range(1, greatest_size(family) + 1)])


def euler_of(family):
    """The Euler sum, in which odd sizes count up and even ones, that of () too, down."""
    counts = counts_of(family)
    return sum(counts[::2]) - sum(counts[1::2]) - 1


def parts_of(family):
    """The ascending tuple of the lots of points that hang together."""
    check_family(family)
    lots = []
    for facet in family:
        met = [lot for lot in lots if has_common_point(lot, facet)]
        apart = [lot for lot in lots if not has_common_point(lot, facet)]
        lots = apart + [points_in(met + [facet])]
    return tuple(sorted(lots))


def faces_of(family, size):
    """The ascending tuple of the faces of a size from 0 on."""
    check_family(family)
    if not is_integer_from(size, 0):
        raise BadSize(size)
    return tuple(faces_at(family, size))


def is_face(family, thing):
    """Whether any value is a face of the family."""
    check_family(family)
    return is_face_within(family, thing)


def family_text(family):
    """The text of a family, one word for each facet."""
    check_family(family)
    if len(family) == 0:
        return "-"
    return " ".join(["".join([str(point) for point in facet]) for facet in family])


def read_family(text):
    """The family that has this text."""
    if not isinstance(text, str):
        raise BadText(0)
    if text == "-":
        return ()
    sets = read_sets(text.split(" "))
    if not is_family(sets):
        raise BadText(len(sets) + 1)
    return sets


def read_sets(words):
    """The sets that words tell, each set above the one ahead."""
    sets = []
    for at, word in enumerate(words, start=1):
        points = tuple([DIGITS.find(sign) for sign in word])
        if len(points) == 0 or not is_set(points):
            raise BadText(at)
        if len(sets) > 0 and points <= sets[-1]:
            raise BadText(at)
        sets.append(points)
    return tuple(sets)


def check_family(family):
    """Raises an error for any value that is no family."""
    if not is_family(family):
        raise BadFamily(family)


def are_first_sets(thing):
    """Whether any value is a tuple of sets whose points are just the first ones, at most nine."""
    if not isinstance(thing, tuple) or not all([is_set(part) for part in thing]):
        return False
    points = points_in(thing)
    return len(points) <= MOST_POINTS and points == tuple(range(len(points)))


def points_in(sets):
    """The ascending tuple of the points of some sets."""
    return tuple(sorted({point for points in sets for point in points}))


def greatest_size(family):
    """The size of the greatest facets, 0 for ()."""
    return max([len(facet) for facet in family], default=0)


def is_face_within(family, thing):
    """Whether any value is a set that lies within a facet, or ()."""
    if not is_set(thing):
        return False
    return len(thing) == 0 or any([lies_within(thing, facet) for facet in family])


def faces_at(family, size):
    """The ascending list of the faces of any size from 0 on."""
    if size == 0:
        return [()]
    if size > MOST_POINTS:
        return []
    return faces_within(family, size)


def faces_within(family, size):
    """The ascending list of the sets of a size from 1 to MOST_POINTS that lie within facets."""
    return sorted({face for facet in family for face in combinations(facet, size)})


def lies_within(points, others):
    """Whether each point of the one set is in the other one."""
    return all([point in others for point in points])


def has_common_point(points, others):
    """Whether some point is in both sets."""
    return any([point in others for point in points])


def outermost(sets):
    """The ascending tuple of those sets, other than (), that lie within no other one."""
    return outermost_of([mask_of(points) for points in sets])


def outermost_of(masks):
    """The ascending tuple of the sets with those masks, above 0, that lie within no other one."""
    return tuple(sorted([points_of(mask) for mask in outer_masks(masks) if mask > 0]))


def outer_masks(masks):
    """Those of some masks that lie within no other one, each once."""
    kept = []
    # What lies within another mask is no greater a number, so it comes behind that one.
    for mask in sorted(masks, reverse=True):
        if not is_covered(mask, kept):
            kept.append(mask)
    return kept


def is_covered(mask, others):
    """Whether a mask lies within some other one."""
    return any([mask & other == mask for other in others])


def mask_of(points):
    """The number whose binary places that are 1 are the points."""
    return sum([1 << point for point in points])


def points_of(mask):
    """The set that has this mask."""
    return tuple([point for point in range(mask.bit_length()) if mask >> point & 1])
