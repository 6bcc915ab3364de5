"""Cascades of numbers, and the lower and upper numbers of sets and of products."""

from math import comb

from holerows.errors import BadCascade, BadNumber, BadSize
from holerows.values import are_integers_from, is_integer_from, is_rising


def cascade_of(number, size):
    """The cascade of a number for a size."""
    check_number(number)
    check_size(size)
    tops = []
    rest = number
    place = size
    # At the place 1 the greatest top is the rest itself, so nothing is left for a place 0.
    while rest > 0:
        top = greatest_top(rest, place)
        tops.append(top)
        rest = rest - comb(top, place)
        place = place - 1
    return tuple(tops)


def lower_sets(number, size):
    """The least number of sets one smaller that lie within so many sets of the size."""
    return moved_sum(size, cascade_of(number, size), 0, -1)


def upper_sets(number, size):
    """The greatest number of sets one greater all of whose sets of the size are among so many."""
    return moved_sum(size, cascade_of(number, size), 0, 1)


def lower_products(number, size):
    """The least number of divisors of so many products of the degree."""
    return moved_sum(size, cascade_of(number, size), -1, -1)


def upper_products(number, size):
    """The greatest number of products of the next degree all of whose divisors are among so many."""
    return moved_sum(size, cascade_of(number, size), 1, 1)


def is_cascade(size, thing):
    """Whether any value is the cascade of some number for the size."""
    check_size(size)
    if not are_integers_from(thing, 1) or len(thing) > size:
        return False
    return is_rising(thing[::-1]) and all([top >= size - k for k, top in enumerate(thing)])


def number_of(size, cascade):
    """The number that has this cascade for the size."""
    if not is_cascade(size, cascade):
        raise BadCascade(cascade)
    return moved_sum(size, cascade, 0, 0)


def check_number(number):
    """Raises an error for any value that is no integer from 0 on."""
    if not is_integer_from(number, 0):
        raise BadNumber(number)


def check_size(size):
    """Raises an error for any value that is no integer from 1 on."""
    if not is_integer_from(size, 1):
        raise BadSize(size)


def greatest_top(number, size):
    """The greatest a for which C(a, size) is not above a number from 1 on."""
    return greatest_within(number, size, lambda top: comb(top, size))


def greatest_within(number, least, count_at):
    """The greatest a, from the least one on, whose count, which grows with a, is not above a number."""
    low = 0
    high = 1
    while count_at(least + high) <= number:
        low = high
        high = 2 * high
    while high - low > 1:
        middle = (low + high) // 2
        if count_at(least + middle) <= number:
            low = middle
        else:
            high = middle
    return least + low


def moved_sum(size, cascade, more_things, more_size):
    """The sum of the C(a_i + more_things, i + more_size) over a cascade for the size."""
    return sum([comb(top + more_things, size - k + more_size) for k, top in enumerate(cascade)])
