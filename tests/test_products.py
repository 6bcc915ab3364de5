"""Promises [7.1] and [7.3], and holerows/products.py."""

import random
import unittest
from itertools import combinations_with_replacement

from holerows.cascades import lower_products
from holerows.errors import BadNumber, BadOrder, BadPoint, BadProduct, BadSize
from holerows.productrows import first_order
from holerows.products import (
    divisors_of, is_low_order, is_order, is_product, product_at, product_number, pushed_order, row_of,
)
from plain import (
    NO_INTEGERS, NO_SIZES, NO_WHOLES, PARTS, Raises, all_orders, is_plain_integer, is_plain_order, is_plain_product,
    plain_divisors, some_orders, spoiled,
)

GREAT = 10 ** 30


def plain_listing(letters, degree):
    """All products of a degree of the first letters, those with less at their greatest letters first."""
    return sorted(combinations_with_replacement(range(letters), degree), key=lambda product: product[::-1])


def plain_push(order, i, j):
    """For each r and t the products of r and t letters i or j, of which so many stay as there are."""
    pushed = set()
    rests = {(tuple(a for a in product if a not in (i, j)), len(product)) for product in order}
    for r, length in rests:
        t = length - len(r)
        row = [tuple(sorted(r + (i,) * (t - k) + (j,) * k)) for k in range(t + 1)]
        pushed.update(row[:sum(product in order for product in row)])
    return tuple(sorted(pushed))


def plain_row(order):
    degrees = [len(product) for product in order]
    return tuple(degrees.count(degree) for degree in range(max(degrees) + 1))


class Order(unittest.TestCase, Raises):

    def test_against_a_listing(self):
        for degree, letters in ((1, 40), (2, 12), (3, 8), (4, 6), (5, 5), (9, 3), (16, 2)):
            listing = plain_listing(letters, degree)
            for number, product in enumerate(listing):
                self.assertEqual(product_number(product), number)
                self.assertEqual(product_at(degree, number), product)
        self.assertEqual(product_at(number=4, degree=2), (1, 2))
        self.assertEqual(product_number(product=(1, 2)), 4)

    def test_edges(self):
        for degree in range(1, 20):
            self.assertEqual(product_at(degree, 0), (0,) * degree)
            self.assertEqual(product_number((0,) * degree), 0)
            self.assertEqual(product_at(degree, 1), (0,) * (degree - 1) + (1,))
            self.assertEqual(product_at(degree, degree), (1,) * degree)
        for number in (0, 1, 9, GREAT, 10 ** 39):
            self.assertEqual(product_at(1, number), (number,))
            self.assertEqual(product_number((number,)), number)
        self.assertEqual(product_number((0, GREAT)), GREAT * (GREAT + 1) // 2)
        self.assertEqual(product_number((GREAT, GREAT)), GREAT + GREAT * (GREAT + 1) // 2)

    def test_back_and_forth_at_great_numbers(self):
        chance = random.Random(27)
        for degree in range(1, 18):
            for number in [chance.randrange(10 ** chance.randint(1, 30)) for _ in range(30)] + [GREAT, GREAT - 1]:
                product = product_at(degree, number)
                self.assertTrue(is_plain_product(product))
                self.assertEqual(len(product), degree)
                self.assertEqual(product_number(product), number)
            for digits in (1, 2, 12, 30):
                product = tuple(sorted(chance.randrange(10 ** digits) for _ in range(degree)))
                self.assertEqual(product_at(degree, product_number(product)), product)

    def test_divisors(self):
        chance = random.Random(28)
        for product in ((), (0,), (0, 0), (0, 1), (0, 0, 1, 1), (3, GREAT), (5,) * 16, tuple(range(16))):
            self.assertEqual(repr(divisors_of(product)), repr(plain_divisors(product)))
        for _ in range(200):
            product = tuple(sorted(chance.choices(range(5), k=chance.randint(1, 9))))
            self.assertEqual(divisors_of(product), plain_divisors(product))
            self.assertEqual(divisors_of(product=product), plain_divisors(product))
        self.assertEqual(divisors_of(()), ())
        self.assertEqual(divisors_of((7,)), ((),))

    def test_the_divisors_of_the_first_products_are_the_first_ones(self):
        for degree, letters in ((2, 9), (3, 6), (4, 5), (6, 3)):
            listing = plain_listing(letters, degree)
            below = plain_listing(letters, degree - 1)
            for many in range(len(listing) + 1):
                found = {divisor for product in listing[:many] for divisor in divisors_of(product)}
                self.assertEqual(found, set(below[:lower_products(many, degree)]))


class Kinds(unittest.TestCase):

    def test_products(self):
        for thing in ((), (0,), (0, 0), (2, 2, 7), (10 ** 39,), (0,) * 3000):
            self.assertIs(is_product(thing), True)
        for thing in ((1, 0), (-1,), (True,), (0, True), [0], "0", None, 0, ((0,),), (0, None), (5,) * 2999 + (4,)):
            self.assertIs(is_product(thing), False, thing)
        for base in ((), (0,), (0, 0, 3)):
            for thing in spoiled(base):
                self.assertIs(is_product(thing), is_plain_product(thing), thing)
                self.assertIs(is_product(thing=thing), is_plain_product(thing))

    def test_orders(self):
        for order in all_orders(2, 3) + all_orders(3, 2) + some_orders():
            self.assertTrue(is_plain_order(order))
            self.assertIs(is_order(order), True)
        for thing in ((), ((0,),), ((0,), ()), ((), (0, 0)), ((), (0,), (0,)), ((), (0,), (0, 1)), ((), (1,), (0,)), [()],
                      ((), [0]), ((), (False,)), ((), (0,), (0, False)), ((), 0), ((), None), {(): ()}, ((), (0,), (1, 0)),
                      ((), (1,), (1, 2)), ((), ())):
            self.assertIs(is_order(thing), False, thing)

    def test_orders_with_a_change(self):
        for base in (((),), ((), (0,), (0, 0), (0, 1), (1,)), ((), (3,), (3, 3), (3, 3, 3))):
            for thing in spoiled(base):
                self.assertIs(is_order(thing), is_plain_order(thing), thing)
                self.assertIs(is_order(thing=thing), is_plain_order(thing))


class Pushes(unittest.TestCase):

    def test_rows(self):
        for order in all_orders(2, 3) + all_orders(3, 2) + some_orders():
            self.assertEqual(repr(row_of(order)), repr(plain_row(order)))
            self.assertEqual(row_of(order=order), plain_row(order))
        self.assertEqual(row_of(((),)), (1,))

    def test_against_plain_looks(self):
        for order in all_orders(2, 3) + all_orders(3, 2) + some_orders():
            for i in range(4):
                for j in range(i + 1, 5):
                    told = pushed_order(order, i, j)
                    self.assertEqual(told, plain_push(order, i, j), (order, i, j))
                    self.assertTrue(is_plain_order(told))
                    self.assertEqual(plain_row(told), plain_row(order))
                    self.assertEqual(pushed_order(j=j, i=i, order=order), told)

    def test_edges(self):
        self.assertEqual(pushed_order(((),), 0, 1), ((),))
        self.assertEqual(pushed_order(((), (9,)), 8, 9), ((), (8,)))
        self.assertEqual(pushed_order(((), (9,)), 9, 10 ** 39), ((), (9,)))
        self.assertEqual(pushed_order(((), (0,), (1,), (1, 1)), 0, 1), ((), (0,), (0, 0), (1,)))
        self.assertEqual(pushed_order(((), (1,), (1, 1)), 0, 1), ((), (0,), (0, 0)))

    def test_low_orders(self):
        told = {True: 0, False: 0}
        for order in all_orders(2, 3) + all_orders(3, 2) + some_orders():
            right = all(plain_push(order, i, j) == order for i in range(9) for j in range(i + 1, 10))
            self.assertIs(is_low_order(order), right, order)
            self.assertIs(is_low_order(order=order), right)
            told[right] += 1
        self.assertGreater(min(told.values()), 20)

    def test_letters_that_are_left_out(self):
        for order in (((), (1,)), ((), (0,), (2,)), ((), (9,)), ((), (0,), (1,), (3,))):
            self.assertIs(is_low_order(order), False)
        self.assertIs(is_low_order(((), (0,), (1,), (2,))), True)
        self.assertIs(is_low_order(((),)), True)

    def test_first_orders_are_low(self):
        for row in ((1,), (1, 4), (1, 3, 5, 2), (1, 9, 40), (1, 2, 3, 4, 5), (1, 1, 1, 1), (1, 5, 0)):
            self.assertIs(is_low_order(first_order(row)), True)


class WrongInputs(unittest.TestCase, Raises):

    def test_products(self):
        for wrong in NO_WHOLES + PARTS + tuple(spoiled((0, 2, 2))):
            if not is_plain_product(wrong):
                self.assert_bad(BadProduct, wrong, divisors_of, wrong)
                self.assert_bad(BadProduct, wrong, divisors_of, product=wrong)
            if not is_plain_product(wrong) or wrong == ():
                self.assert_bad(BadProduct, wrong, product_number, wrong)
                self.assert_bad(BadProduct, wrong, product_number, product=wrong)

    def test_degrees_and_numbers(self):
        for wrong in NO_SIZES:
            for number in (0, 3, -1, None, True):
                self.assert_bad(BadSize, wrong, product_at, wrong, number)
            self.assert_bad(BadSize, wrong, product_at, number=None, degree=wrong)
        for wrong in NO_WHOLES:
            for degree in (1, 2, 16):
                self.assert_bad(BadNumber, wrong, product_at, degree, wrong)

    def test_orders(self):
        wrong = list(NO_INTEGERS + PARTS) + list(spoiled(((), (0,), (0, 0)))) + [((), (0, 1)), [()], ((),) * 2]
        for thing in wrong:
            if not is_plain_order(thing):
                for call in (row_of, is_low_order):
                    self.assert_bad(BadOrder, thing, call, thing)
                    self.assert_bad(BadOrder, thing, call, order=thing)
                for i, j in ((0, 1), (1, 0), (None, None), (True, 2)):
                    self.assert_bad(BadOrder, thing, pushed_order, thing, i, j)

    def test_letters(self):
        for order in (((),), ((), (0,), (1,)), ((), (9,))):
            for wrong in NO_WHOLES:
                for j in (0, 1, 9, None, True):
                    self.assert_bad(BadPoint, wrong, pushed_order, order, wrong, j)
            for i in (0, 1, 8, GREAT):
                for wrong in NO_WHOLES + (i, i - 1, 0):
                    if not is_plain_integer(wrong, i + 1):
                        self.assert_bad(BadPoint, wrong, pushed_order, order, i, wrong)
                        self.assert_bad(BadPoint, wrong, pushed_order, j=wrong, order=order, i=i)


if __name__ == "__main__":
    unittest.main()
