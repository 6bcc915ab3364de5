"""Vectors of numbers of p, told as dicts from sets to numbers that leave out the zeros.

A vector can carry a mark: numbers at sets of another size, which go along with all that is done to
it and tell afterwards what it was put together from.
"""

from math import gcd

from holerows.fields import reduced


def cleaned(vector, p):
    """The vector with all numbers made numbers of p, without the zeros."""
    numbers = {place: reduced(number, p) for place, number in vector.items()}
    return {place: number for place, number in numbers.items() if number != 0}


def scaled(vector, by, p):
    """The vector taken so many times."""
    return cleaned({place: by * number for place, number in vector.items()}, p)


def product_sum(one, other, p):
    """The sum of the products of the numbers that two vectors have at each place."""
    return reduced(sum([number * other.get(place, 0) for place, number in one.items()]), p)


def lightened(vector):
    """The vector with its numbers divided by what they have in common, so that they stay small."""
    common = 0
    for number in vector.values():
        common = gcd(common, number)
    return {place: number // common for place, number in vector.items()}


def struck(vector, pivot, other, p):
    """The vector, times a number that is not 0, less so much of the other one that it is 0 at the pivot."""
    if pivot not in vector:
        return vector
    total = {place: other[pivot] * number for place, number in vector.items()}
    for place, number in other.items():
        total[place] = total.get(place, 0) - vector[pivot] * number
    return lightened(cleaned(total, p))


def lessened(vector, basis, p):
    """The vector struck at all pivots of a basis."""
    for pivot, other in basis.items():
        vector = struck(vector, pivot, other, p)
    return vector


def places_of(vector, size):
    """The sets of a size at which a vector is not 0."""
    return [place for place in vector if len(place) == size]


def basis_of(vectors, size, p):
    """A basis of vectors, and what is left of those that depend on the ones ahead.

    The basis is a dict from its pivots, sets of the told size; each of its vectors is not 0 at its
    own pivot, and 0 at all others. What is left has no such set any more: only marks.
    """
    basis = {}
    left = []
    for vector in vectors:
        rest = lessened(vector, basis, p)
        places = places_of(rest, size)
        if len(places) == 0:
            left.append(rest)
        else:
            basis = {other: struck(basis[other], places[0], rest, p) for other in basis}
            basis[places[0]] = rest
    return basis, left


def cut_at(basis, place, p):
    """A vector, not 0 at a place that is no pivot, that has the product sum 0 with all of a basis.

    Besides this place it is 0 at all that are no pivots, so a vector that is 0 at the pivots has with
    it the product of the two numbers at the place.
    """
    cut = {place: 1}
    for pivot, vector in basis.items():
        if place in vector:
            against = cut[place] * vector[place]
            cut = scaled(cut, vector[pivot], p)
            cut[pivot] = reduced(-against, p)
            cut = lightened(cut)
    return cut
