"""Families that come from others: links, mirrors, skeletons, cones, joins."""

from itertools import combinations

from holerows.errors import BadFace, BadNames, BadSize, TooGreat
from holerows.families import (
    MOST_POINTS,
    check_family,
    is_covered,
    is_face,
    lies_within,
    mask_of,
    outermost,
    points_in,
    points_of,
)
from holerows.values import are_integers_from, is_integer_from


def link_of(family, face):
    """What makes faces together with a face and has no point of it, as (points, inner)."""
    if not is_face(family, face):
        raise BadFace(face)
    return link_within(family, face)


def without(family, face):
    """The faces within which a face other than () does not lie, as (points, inner)."""
    if not is_face(family, face) or len(face) == 0:
        raise BadFace(face)
    sets = []
    for facet in family:
        if lies_within(face, facet):
            sets.extend([points_without(facet, (point,)) for point in face])
        else:
            sets.append(facet)
    return pair_of(sets)


def mirror_of(family):
    """The sets of points whose rest is no face, as (points, inner), None if there are none."""
    check_family(family)
    if len(family) < 2:
        return None
    facets = [mask_of(facet) for facet in family]
    full = mask_of(points_in(family))
    masks = [mask for mask in range(full + 1) if not is_covered(full - mask, facets)]
    return pair_of([points_of(mask) for mask in masks])


def skeleton_of(family, size):
    """The family of the faces of at most so many points."""
    check_family(family)
    if not is_integer_from(size, 1):
        raise BadSize(size)
    small = [facet for facet in family if len(facet) <= size]
    cut = [part for facet in family if len(facet) > size for part in combinations(facet, size)]
    return outermost(small + cut)


def cone_of(family):
    """The family with one new point in all facets."""
    return join_of(family, ((0,),))


def hung_of(family):
    """The family with two new points, the facets once with each of them."""
    return join_of(family, ((0,), (1,)))


def join_of(one, other):
    """The family of each facet of the one together with each facet of the other one."""
    check_family(one)
    check_family(other)
    moved = moved_behind(one, other)
    if len(one) == 0 or len(other) == 0:
        return one + moved
    return tuple(sorted([left + right for left in one for right in moved]))


def beside(one, other):
    """The family with the facets of both, without a common point."""
    check_family(one)
    check_family(other)
    return one + moved_behind(one, other)


def renamed(family, names):
    """The family in which the point i is called names[i]."""
    check_family(family)
    points = points_in(family)
    if not are_integers_from(names, 0) or tuple(sorted(names)) != points:
        raise BadNames(names)
    facets = [tuple(sorted([names[point] for point in facet])) for facet in family]
    return tuple(sorted(facets))


def link_within(family, face):
    """The link of a face as (points, inner)."""
    return pair_of([points_without(facet, face) for facet in family if lies_within(face, facet)])


def pair_of(sets):
    """(points, inner) of the family whose faces are the sets that lie within the told ones."""
    points = points_in(sets)
    places = {point: place for place, point in enumerate(points)}
    return points, outermost([tuple([places[point] for point in facet]) for facet in sets])


def points_without(points, gone):
    """The points of a set that are not among those gone."""
    return tuple([point for point in points if point not in gone])


def moved_behind(one, other):
    """The facets of the other family with its points behind those of the one."""
    step = len(points_in(one))
    total = step + len(points_in(other))
    if total > MOST_POINTS:
        raise TooGreat(total)
    return tuple([tuple([point + step for point in facet]) for facet in other])
