"""Families without holes about any face below the greatest dimension, and the counts that they have."""

from holerows.builds import link_within, skeleton_of
from holerows.families import check_family, faces_at, greatest_size
from holerows.fields import check_field
from holerows.firsts import check_buildable
from holerows.holes import many_holes
from holerows.productrows import first_order, h_row, row_certificates
from holerows.values import is_one_of


def is_sound(family, p):
    """Whether the link of each face has holes of its greatest dimension only."""
    return judge_sound(family, p) == ("sound",)


def judge_sound(family, p):
    """A certificate that the family is sound over p, or that it is not."""
    return sound_certificates(family, p)[0]


def sound_holds(family, p, thing):
    """Whether any value is a certificate for the family over p."""
    return is_one_of(thing, sound_certificates(family, p))


def depth_of(family, p):
    """The greatest size, up to that of the family, for which the skeleton is sound over p."""
    check_family(family)
    check_field(p)
    depth = greatest_size(family)
    # The skeleton of the size 1 has lone points only, and is sound.
    while depth > 1 and not is_sound(skeleton_of(family, depth), p):
        depth = depth - 1
    return depth


def judge_sound_counts(counts):
    """A certificate that some sound family has these counts, or that none has."""
    return sound_counts_certificates(counts)[0]


def sound_counts_hold(counts, thing):
    """Whether any value is a certificate for the counts."""
    return is_one_of(thing, sound_counts_certificates(counts))


def pure_first(counts):
    """The sound family with a facet for each product of the first order of the row h."""
    certificate = judge_sound_counts(counts)
    check_buildable(counts, certificate)
    if len(counts) == 0:
        return ()
    return tuple(sorted([facet_of(product, len(counts)) for product in first_order(certificate[1])]))


def sound_certificates(family, p):
    """All certificates for the family over p."""
    check_family(family)
    check_field(p)
    faults = []
    for size in range(greatest_size(family) + 1):
        for face in faces_at(family, size):
            faults.extend([("face", face, k) for k in low_holes_about(family, face, p)])
    if len(faults) > 0:
        return faults
    return [("sound",)]


def low_holes_about(family, face, p):
    """The dimensions, below the greatest one, in which the link of a face has holes."""
    _, link = link_within(family, face)
    return [k for k in range(greatest_size(link) - 1) if many_holes(link, p, k + 1) > 0]


def sound_counts_certificates(counts):
    """All certificates for the counts."""
    row = h_row(counts)
    below = [("below", j) for j, number in enumerate(row) if number < 0]
    if len(below) > 0:
        return below
    certificates = row_certificates(row)
    if certificates[0][0] != "fits":
        return certificates
    return [("fits", row)]


def facet_of(product, size):
    """The facet of a size that stands for a product: least points, a gap, and one point for each letter."""
    gap = size - len(product)
    return tuple(range(gap)) + tuple([letter + gap + 1 + k for k, letter in enumerate(product)])
