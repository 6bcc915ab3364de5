"""Flips of round families: a face goes with all around it, and another set comes in its place."""

from holerows.builds import link_within, pair_of, points_without
from holerows.errors import NoFlip, NotSphere, TooGreat
from holerows.families import (
    check_family,
    faces_within,
    greatest_size,
    is_face_within,
    lies_within,
    points_in,
)
from holerows.spheres import judge_round
from holerows.values import is_just

MOST_FLIP_POINTS = 8


def flips_of(family):
    """The ascending tuple of all flips, as pairs of the set that goes and the one that comes."""
    check_sphere(family)
    faces = [face for size in range(1, greatest_size(family) + 1) for face in faces_within(family, size)]
    pairs = [(face, set_instead(family, face)) for face in sorted(faces)]
    return tuple([pair for pair in pairs if pair[1] is not None])


def flipped(family, face, other):
    """The family that comes of a flip."""
    check_sphere(family)
    if not is_flip(family, face, other):
        raise NoFlip((face, other))
    # Only a new point stands so high in a family of no more points.
    if other[0] >= MOST_FLIP_POINTS:
        raise TooGreat(other[0] + 1)
    kept = [facet for facet in family if not lies_within(face, facet)]
    put = [other + points_without(face, (point,)) for point in face]
    # If the face is a single point, it is in none of these, and the points above it are renamed.
    _, inner = pair_of(kept + put)
    return inner


def check_sphere(family):
    """Raises an error for any value that is no family round over 2 with facets of two points or more."""
    check_family(family)
    if greatest_size(family) < 2:
        raise NotSphere(("face", ()))
    certificate = judge_round(family, 2)
    if certificate[0] != "round":
        raise NotSphere(certificate)


def is_flip(family, face, other):
    """Whether any two values are a flip of a round family."""
    if not is_face_within(family, face) or len(face) == 0:
        return False
    right = set_instead(family, face)
    return right is not None and is_just(other, right)


def set_instead(family, face):
    """The only set that can come in the place of a face other than () by a flip, None if there is none."""
    points, _ = link_within(family, face)
    if len(points) == 0:
        return (len(points_in(family)),)
    # A link with so few points that it is round has all sets of them but the whole as its faces.
    if len(points) + len(face) != greatest_size(family) + 1 or is_face_within(family, points):
        return None
    return points
