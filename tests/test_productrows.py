"""Promises [7.2], [7.4] and [7.5], and holerows/productrows.py."""

import random
import unittest
from itertools import product
from math import comb

from holerows.cascades import upper_products
from holerows.errors import BadCounts, BadNumber, BadRow, BadSize, NotFit, TooMany
from holerows.families import counts_of
from holerows.productrows import counts_of_h, first_order, h_row, judge_row, most_behind, row_holds
from holerows.products import product_at, row_of
from plain import (
    NO_INTEGERS, NO_SIZES, NO_WHOLES, PARTS, Raises, all_orders, error_of, is_plain_counts, is_plain_integer,
    is_plain_order, many_families, plain_back, plain_divisors, plain_h, some_orders, spoiled,
)

GREAT = 10 ** 30


def is_plain_row(thing):
    if type(thing) is not tuple or not 1 <= len(thing) <= 17:
        return False
    return all(is_plain_integer(part, 0) for part in thing) and thing[0] == 1


def plain_certificates(row):
    """All certificates for a row, as the document words them."""
    uppers = [upper_products(row[k], k) for k in range(1, len(row) - 1)]
    wrong = [("degree", k) for k in range(1, len(row) - 1) if row[k + 1] > uppers[k - 1]]
    return wrong or [("fits", tuple(uppers))]


def is_plain_certificate(row, thing):
    """repr tells bools from integers and lists from tuples."""
    return repr(thing) in [repr(right) for right in plain_certificates(row)]


def is_plain_h(thing):
    if type(thing) is not tuple or not 1 <= len(thing) <= 17 or not all(type(part) is int for part in thing):
        return False
    return thing[0] == 1 and all(many > 0 for many in plain_back(thing))


def great_rows():
    """Rows of up to 17 integers of up to thirty digits that fit, some of them barely."""
    chance = random.Random(72)
    for digits in (1, 4, 29, 30):
        for length in (1, 2, 3, 9, 16, 17):
            for _ in range(3):
                row = [1]
                for k in range(1, length):
                    most = upper_products(row[-1], k - 1) if k > 1 else GREAT
                    row.append(min(most, chance.choice([0, GREAT, chance.randint(1, 10 ** digits)])))
                yield tuple(row)


class Certificates(unittest.TestCase):

    def check(self, row):
        told = judge_row(row)
        self.assertTrue(is_plain_certificate(row, told), (row, told))
        self.assertEqual(repr(judge_row(row=row)), repr(told))
        for right in plain_certificates(row):
            self.assertIs(row_holds(row, right), True)
            self.assertIs(row_holds(thing=right, row=row), True)
        return told[0]

    def test_all_small_rows(self):
        kinds = {self.check((1,) + rest) for length in range(5) for rest in product(range(5), repeat=length)}
        self.assertEqual(kinds, {"fits", "degree"})

    def test_great_rows(self):
        for row in great_rows():
            self.assertEqual(self.check(row), "fits")
            for k in range(2, len(row)):
                more = row[:k] + (upper_products(row[k - 1], k - 1) + 1,) + row[k + 1:]
                self.assertEqual(self.check(more), "degree")
                self.assertIs(row_holds(more, ("degree", k - 1)), True)

    def test_just_the_rows_of_orders(self):
        """All orders of products of two letters up to the degree 3, and of three up to 2."""
        for letters, greatest in ((2, 3), (3, 2)):
            told = {row_of(order) for order in all_orders(letters, greatest)}
            for length in range(greatest + 1):
                for rest in product(range(9), repeat=length):
                    row = (1,) + rest
                    if sum(rest[:1]) <= letters:
                        while row[-1] == 0:
                            row = row[:-1]
                        right = row in told
                        self.assertEqual(judge_row((1,) + rest)[0] == "fits", right, rest)

    def test_the_rows_of_orders_fit(self):
        for order in some_orders():
            self.assertEqual(self.check(row_of(order)), "fits")
            self.assertEqual(self.check((row_of(order) + (0, 0))[:17]), "fits")

    def test_gaps(self):
        self.assertEqual(plain_certificates((1, 0, 1)), [("degree", 1)])
        self.assertEqual(plain_certificates((1, 3, 0, 0, 2, 9)), [("degree", 3), ("degree", 4)])
        for row, told in (((1, 0, 1), "degree"), ((1, 3, 0, 0, 2, 9), "degree"), ((1, 0, 0, 0), "fits"),
                          ((1, 3, 0), "fits")):
            self.assertEqual(self.check(row), told)
        self.assertEqual([judge_row((1,)), judge_row((1, 0)), judge_row((1, GREAT))], [("fits", ())] * 3)
        self.assertEqual(judge_row((1, 0, 0, 0)), ("fits", (0, 0)))
        self.assertEqual(self.check((1,) + (GREAT,) * 16), "fits")
        self.assertEqual(self.check((1,) * 17), "fits")

    def test_certificates_with_a_change(self):
        for row in ((1,), (1, 0), (1, 1, 1), (1, 3, 4, 2), (1, 2, 4), (1, 0, 1), (1, 2, 4, 5, 7), (1, 1, 1, 1, 2)):
            things = [(word, k) for word in ("fits", "degree", "size", "") for k in range(-2, 6)]
            things.extend([("fits",), ("fits", ()), ("degree", True), "degree", ("degree", 1, 1), ["degree", 1]])
            things.extend(NO_WHOLES + PARTS)
            for right in plain_certificates(row):
                things.extend(spoiled(right))
            for thing in things:
                self.assertIs(row_holds(row, thing), is_plain_certificate(row, thing), (row, thing))


class FirstOrders(unittest.TestCase, Raises):

    def check(self, row):
        order = first_order(row)
        self.assertTrue(is_plain_order(order))
        self.assertEqual(first_order(row=row), order)
        told = {()} | {product_at(k, number) for k in range(1, len(row)) for number in range(row[k])}
        self.assertEqual(order, tuple(sorted(told)))
        while row[-1] == 0:
            row = row[:-1]
        self.assertEqual(row_of(order), row)

    def test_all_small_rows(self):
        for length in range(5):
            for rest in product(range(5), repeat=length):
                row = (1,) + rest
                if plain_certificates(row)[0][0] == "fits":
                    self.check(row)
                else:
                    error = error_of(first_order, row)
                    self.assertIs(type(error), NotFit)
                    self.assertTrue(is_plain_certificate(row, error.certificate))
                    self.assertIs(row_holds(row, error.certificate), True)

    def test_the_rows_of_orders(self):
        for order in some_orders() + all_orders(3, 2):
            self.check(row_of(order))

    def test_just_200_and_one_more(self):
        for row in ((1, 199), (1, 9, 45, 145), (1, 20, 179), (1, 100, 99, 0, 0), (1, 19) + (12,) * 15,
                    (1,) + (4,) * 9 + (1,)):
            self.assertIn(sum(row), (38, 200))
            self.check(row)
        for row in ((1, 200), (1, 9, 45, 146), (1, 20, 180), (1, GREAT), (1, GREAT, 0), (1, 100, 100, 0, 0)):
            self.assertGreater(sum(row), 200)
            self.assert_raises_with(TooMany, "most", 200, first_order, row)
        for row in ((1, 0, 200), (1, 2, 4, GREAT), (1, 200, GREAT)):
            self.assertIs(type(error_of(first_order, row)), NotFit)


class RowsAndCounts(unittest.TestCase):

    def check(self, counts):
        told = h_row(counts)
        self.assertEqual(repr(told), repr(plain_h(counts)))
        self.assertEqual(h_row(counts=counts), told)
        self.assertEqual(told[0], 1)
        self.assertEqual(sum(told), ((1,) + counts)[-1])
        self.assertEqual(repr(counts_of_h(told)), repr(counts))
        self.assertEqual(counts_of_h(numbers=told), counts)

    def test_all_small_counts(self):
        for length in range(4):
            for counts in product(range(1, 7), repeat=length):
                self.check(counts)

    def test_great_counts(self):
        chance = random.Random(74)
        for digits in (1, 5, 30):
            for length in range(17):
                self.check(tuple(chance.randint(1, 10 ** digits) for _ in range(length)))
        self.check((GREAT,) * 16)

    def test_families(self):
        for family in many_families():
            self.check(counts_of(family))

    def test_all_small_numbers(self):
        for length in range(4):
            for rest in product(range(-4, 5), repeat=length):
                numbers = (1,) + rest
                if is_plain_h(numbers):
                    self.assertEqual(counts_of_h(numbers), plain_back(numbers))
                    self.assertEqual(h_row(counts_of_h(numbers)), numbers)
                else:
                    self.assertIs(type(error_of(counts_of_h, numbers)), BadRow)

    def test_edges(self):
        self.assertEqual([h_row(()), counts_of_h((1,)), h_row((1,)), counts_of_h((1, 0))], [(1,), (), (1, 0), (1,)])
        self.assertEqual([h_row((GREAT,)), counts_of_h((1, GREAT))], [(1, GREAT - 1), (GREAT + 1,)])
        # The sum of all numbers is the last count, so it is not below 1.
        self.assertEqual(counts_of_h((1, 1, -1)), (3, 1))


class FarBehind(unittest.TestCase):

    def test_against_steps(self):
        for number in list(range(12)) + [100, 10 ** 12 + 3, GREAT]:
            for degree in (1, 2, 3, 8, 16):
                told = number
                for steps in range(13):
                    self.assertEqual(most_behind(number, degree, steps), told)
                    told = upper_products(told, degree + steps)
        self.assertEqual(most_behind(steps=2, number=3, degree=2), 5)

    def test_edges(self):
        self.assertEqual([most_behind(0, 3, 12), most_behind(1, 3, 12), most_behind(GREAT, 16, 0)], [0, 1, GREAT])
        for steps in range(13):
            self.assertEqual(most_behind(4, 1, steps), comb(4 + steps, steps + 1))

    def test_against_products_made(self):
        """From the first products of a degree come as many as their letters let."""
        for degree, many in ((1, 3), (2, 4), (2, 6), (3, 7)):
            kept = {product_at(degree, number) for number in range(many)}
            for steps in range(4):
                self.assertEqual(len(kept), most_behind(many, degree, steps))
                longer = {tuple(sorted(row + (letter,))) for row in kept for letter in range(9)}
                kept = {row for row in longer if set(plain_divisors(row)) <= kept}


class WrongInputs(unittest.TestCase, Raises):

    def test_rows(self):
        wrong = NO_INTEGERS + PARTS + ((), (0,), (2, 1), (True,), (1, True), (1, -1), [1, 2], (1,) * 18, (1, None))
        wrong += tuple(spoiled((1, 3, 2)))
        for thing in wrong:
            if not is_plain_row(thing):
                for call in (judge_row, first_order):
                    self.assert_bad(BadRow, thing, call, thing)
                    self.assert_bad(BadRow, thing, call, row=thing)
                for other in (("fits", ()), ("degree", 1), None):
                    self.assert_bad(BadRow, thing, row_holds, thing, other)

    def test_counts(self):
        for thing in NO_INTEGERS + PARTS + ((1,) * 17, (1, 0), (4, True), [4, 5]) + tuple(spoiled((4, 5, 1))):
            if not is_plain_counts(thing):
                self.assert_bad(BadCounts, thing, h_row, thing)
                self.assert_bad(BadCounts, thing, h_row, counts=thing)

    def test_numbers_of_no_counts(self):
        wrong = NO_INTEGERS + PARTS + ((), (0,), (2, 1), (True,), (1, True), [1, 2], (1,) * 18, (1, None), (1, -1), (1, -2))
        wrong += tuple(spoiled((1, 3, -1))) + ((1, 0, -1), (1, 1, -2), (1, 1, -3), (1, 5, -6), (1, -GREAT))
        for thing in wrong:
            if is_plain_h(thing):
                self.assertEqual(counts_of_h(thing), plain_back(thing))
            else:
                self.assert_bad(BadRow, thing, counts_of_h, thing)
                self.assert_bad(BadRow, thing, counts_of_h, numbers=thing)
        self.assertEqual(len(counts_of_h((1,) * 17)), 16)

    def test_numbers_degrees_and_steps(self):
        for wrong in NO_WHOLES:
            for degree in (1, 0, None):
                for steps in (0, -1, None):
                    self.assert_bad(BadNumber, wrong, most_behind, wrong, degree, steps)
            for number in (0, 5, GREAT):
                self.assert_bad(BadNumber, wrong, most_behind, number, 2, wrong)
                self.assert_bad(BadNumber, wrong, most_behind, steps=wrong, degree=2, number=number)
        for wrong in NO_SIZES:
            for steps in (0, 3, -1, None, True):
                self.assert_bad(BadSize, wrong, most_behind, 3, wrong, steps)


if __name__ == "__main__":
    unittest.main()
