"""Field numbers, and the numbers of a field."""

from holerows.errors import BadField
from holerows.values import is_integer, is_integer_from

# The number 0 stands for fractions, whose numbers are told as integers.
FIELDS = (0, 2, 3, 5, 7)


def check_field(p):
    """Raises an error for any value that is no field number."""
    if not is_integer_from(p, 0) or p not in FIELDS:
        raise BadField(p)


def is_number(p, thing):
    """Whether any value is a number of p other than 0."""
    if not is_integer(thing) or thing == 0:
        return False
    return p == 0 or 0 < thing < p


def reduced(number, p):
    """The number of p that an integer stands for."""
    if p == 0:
        return number
    return number % p
