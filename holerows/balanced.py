"""Full families, and the counts of sound families with as many colours as a facet has points."""

from holerows.colours import first_coloured, lower_spread
from holerows.families import (
    check_family,
    faces_at,
    greatest_size,
    mask_of,
    outermost_of,
    points_in,
    points_of,
)
from holerows.firsts import check_buildable
from holerows.productrows import h_row
from holerows.values import is_one_of


def full_family(family):
    """The family of all sets of points any two of which make a face."""
    check_family(family)
    points = points_in(family)
    # For each point the mask of those that make faces with it, itself among them.
    near = [mask_of(points_in([facet for facet in family if point in facet])) for point in points]
    return outermost_of([mask for mask in range(1 << len(points)) if is_near_all(near, mask)])


def judge_balanced(counts):
    """A certificate that some balanced family has these counts, or that none has."""
    return balanced_certificates(counts)[0]


def balanced_hold(counts, thing):
    """Whether any value is a certificate for the counts."""
    return is_one_of(thing, balanced_certificates(counts))


def first_balanced(counts):
    """The balanced family with a facet for each face of the first coloured family of the row h."""
    certificate = judge_balanced(counts)
    check_buildable(counts, certificate)
    if len(counts) == 0:
        return ()
    size = len(counts)
    inner = first_coloured(counts_behind(certificate[1]), size)
    faces = [face for many in range(greatest_size(inner) + 1) for face in faces_at(inner, many)]
    return tuple(sorted([facet_over(face, size) for face in faces]))


def is_near_all(near, mask):
    """Whether a mask lies within what is near to each of its points."""
    return all([near[point] & mask == mask for point in points_of(mask)])


def balanced_certificates(counts):
    """All certificates for the counts."""
    row = h_row(counts)
    below = [("below", j) for j, number in enumerate(row) if number < 0]
    if len(below) > 0:
        return below
    size = len(counts)
    faults = [("size", k) for k in range(1, size) if lower_spread(row[k + 1], k + 1, size) > row[k]]
    if len(faults) > 0:
        return faults
    return [("fits", row)]


def counts_behind(row):
    """The numbers of a row behind the first one, up to the last one that is not 0."""
    return tuple([number for number in row[1:] if number > 0])


def facet_over(face, size):
    """The facet of a size that stands for a face: its points moved up, and the colours that it lacks."""
    colours = [point % size for point in face]
    return tuple([colour for colour in range(size) if colour not in colours] + [point + size for point in face])
