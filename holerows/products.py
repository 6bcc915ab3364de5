"""Products of letters in the order of their greatest letters, and orders of products."""

from itertools import combinations

from holerows.errors import BadOrder, BadPoint, BadProduct
from holerows.firsts import set_at, set_number
from holerows.values import are_integers_from, is_integer_from, is_rising


def is_product(thing):
    """Whether any value is a product, that is a tuple of letters that do not fall."""
    if not are_integers_from(thing, 0):
        return False
    return all([thing[k] <= thing[k + 1] for k in range(len(thing) - 1)])


def is_order(thing):
    """Whether any value is an order, that is an ascending tuple of products with all their divisors."""
    if not isinstance(thing, tuple) or not all([is_product(part) for part in thing]):
        return False
    if not is_rising(thing) or () not in thing:
        return False
    told = {product: True for product in thing}
    return all([divisor in told for product in thing for divisor in divisors_within(product)])


def product_number(product):
    """The number of a product other than () among the products of its degree."""
    if not is_product(product) or len(product) == 0:
        raise BadProduct(product)
    # With each letter raised by its position the products of a degree are the sets of this size.
    return set_number(tuple([letter + k for k, letter in enumerate(product)]))


def divisors_of(product):
    """The products that come from a product by leaving one letter out once."""
    if not is_product(product):
        raise BadProduct(product)
    return divisors_within(product)


def product_at(degree, number):
    """The product of a degree that has this number."""
    return tuple([point - k for k, point in enumerate(set_at(degree, number))])


def row_of(order):
    """The numbers of the products of each degree of an order."""
    check_order(order)
    degrees = [len(product) for product in order]
    return tuple([degrees.count(degree) for degree in range(max(degrees) + 1)])


def is_low_order(order):
    """Whether no push changes the order."""
    check_order(order)
    letters = tuple(sorted({letter for product in order for letter in product}))
    # A letter that is left out takes the place of one above it by a push.
    if letters != tuple(range(len(letters))):
        return False
    return all([pushed_products(order, i, j) == order for i, j in combinations(letters, 2)])


def pushed_order(order, i, j):
    """The order pushed from the letter j to the letter i below it."""
    check_order(order)
    if not is_integer_from(i, 0):
        raise BadPoint(i)
    if not is_integer_from(j, i + 1):
        raise BadPoint(j)
    return pushed_products(order, i, j)


def divisors_within(product):
    """The ascending tuple of the divisors of a product."""
    return tuple(sorted({product[:k] + product[k + 1:] for k in range(len(product))}))


def check_order(order):
    """Raises an error for any value that is no order."""
    if not is_order(order):
        raise BadOrder(order)


def pushed_products(order, i, j):
    """The ascending tuple of the products of an order behind a push from j to i."""
    found = {}
    moved = []
    for product in order:
        rest = tuple([letter for letter in product if letter not in (i, j)])
        many = len(product) - len(rest)
        # The first one that is found is kept without j, the next one with one j, and so on.
        ahead = found.get((rest, many), 0)
        found[(rest, many)] = ahead + 1
        moved.append(tuple(sorted(rest + (i,) * (many - ahead) + (j,) * ahead)))
    return tuple(sorted(moved))
