"""Families pushed from greater points to smaller ones until they are low."""

from itertools import combinations

from holerows.errors import BadPoint
from holerows.families import (
    check_family,
    faces_within,
    greatest_size,
    is_covered,
    mask_of,
    outermost_of,
    points_in,
)
from holerows.values import is_integer_from


def pushed(family, i, j):
    """The family pushed from the point j to the point i below it."""
    check_family(family)
    many = len(points_in(family))
    if not is_integer_from(i, 0) or i >= many:
        raise BadPoint(i)
    if not is_integer_from(j, i + 1) or j >= many:
        raise BadPoint(j)
    return outermost_of(pushed_masks(face_masks(family), i, j))


def is_low(family):
    """Whether no push changes the family."""
    check_family(family)
    points = points_in(family)
    masks = face_masks(family)
    return all([pushed_masks(masks, i, j) == masks for i, j in combinations(points, 2)])


def low_form(family):
    """What comes from the family by all pushes, again and again until none changes it."""
    check_family(family)
    points = points_in(family)
    masks = face_masks(family)
    last = []
    while masks != last:
        last = masks
        for i, j in combinations(points, 2):
            masks = pushed_masks(masks, i, j)
    return outermost_of(masks)


def low_holes(family):
    """For each size the number of the faces without 0 that make no face together with 0."""
    check_family(family)
    return tuple([many_lone(family, size) for size in range(1, greatest_size(family) + 1)])


def many_lone(family, size):
    """The number of the faces of a size without 0 that make no face together with 0."""
    facets = [mask_of(facet) for facet in family]
    masks = [mask_of(face) for face in faces_within(family, size)]
    # A face that has 0 is one together with 0, so it is not counted.
    return len([mask for mask in masks if not is_covered(mask | 1, facets)])


def face_masks(family):
    """The masks of all faces other than ()."""
    sizes = range(1, greatest_size(family) + 1)
    return [mask_of(face) for size in sizes for face in faces_within(family, size)]


def pushed_masks(masks, i, j):
    """The masks of all faces behind a push from j to i, each where the one that it comes from stood."""
    told = set(masks)
    moved = []
    for mask in masks:
        is_moved = mask >> j & 1 == 1 and mask >> i & 1 == 0 and exchanged(mask, i, j) not in told
        moved.append(exchanged(mask, i, j) if is_moved else mask)
    return moved


def exchanged(mask, i, j):
    """The mask of a set that has j and not i, with i in the place of j."""
    return mask - (1 << j) + (1 << i)
