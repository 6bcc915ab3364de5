"""Rows that some order of products has, the rows h of counts, and how far products go on."""

from math import comb

from holerows.cascades import check_number, check_size, upper_products
from holerows.errors import BadRow, NotFit, TooMany
from holerows.firsts import MOST_COUNTS, check_counts
from holerows.products import product_at
from holerows.values import are_integers_from, is_integer, is_just, is_one_of

MOST_PRODUCTS = 200


def judge_row(row):
    """A certificate that some order has this row, or that none has."""
    return row_certificates(row)[0]


def row_holds(row, thing):
    """Whether any value is a certificate for the row."""
    return is_one_of(thing, row_certificates(row))


def first_order(row):
    """The order of the first products of each degree."""
    certificate = judge_row(row)
    if certificate[0] != "fits":
        raise NotFit(certificate)
    if sum(row) > MOST_PRODUCTS:
        raise TooMany(MOST_PRODUCTS)
    products = [product_at(k, number) for k in range(1, len(row)) for number in range(row[k])]
    return tuple(sorted([()] + products))


def h_row(counts):
    """The row h of counts."""
    check_counts(counts)
    return moved_row((1,) + counts, -1)


def counts_of_h(numbers):
    """The counts that have this row h."""
    if not begins_with_1(numbers) or not all([is_integer(number) for number in numbers]):
        raise BadRow(numbers)
    counts = moved_row(numbers, 1)[1:]
    if not are_integers_from(counts, 1):
        raise BadRow(numbers)
    return counts


def most_behind(number, degree, steps):
    """The most products so many degrees on, all of whose divisors of the degree are among so many."""
    check_number(number)
    check_size(degree)
    check_number(steps)
    most = number
    for step in range(steps):
        most = upper_products(most, degree + step)
    return most


def begins_with_1(thing):
    """Whether any value is a tuple of 1 to 17 items, the first of which is the integer 1."""
    if not isinstance(thing, tuple) or len(thing) == 0 or len(thing) > MOST_COUNTS + 1:
        return False
    return is_just(thing[0], 1)


def row_certificates(row):
    """All certificates for the row."""
    if not begins_with_1(row) or not are_integers_from(row, 0):
        raise BadRow(row)
    degrees = range(1, len(row) - 1)
    uppers = tuple([upper_products(row[k], k) for k in degrees])
    faults = [("degree", k) for k in degrees if row[k + 1] > uppers[k - 1]]
    if len(faults) > 0:
        return faults
    return [("fits", uppers)]


def moved_row(row, sign):
    """For each j the sum over i up to j of C(d - i, j - i) times what stands at i, odd steps with the sign."""
    last = len(row) - 1
    signs = (1, sign)
    return tuple([
        sum([signs[(j - i) & 1] * comb(last - i, j - i) * row[i] for i in range(j + 1)])
        for j in range(len(row))
    ])
