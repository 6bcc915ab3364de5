"""Promises [1.1] to [1.4] and holerows/cascades.py."""

import random
import unittest
from itertools import combinations, combinations_with_replacement
from math import factorial, prod

from holerows.cascades import (
    cascade_of, is_cascade, lower_products, lower_sets, number_of, upper_products, upper_sets,
)
from holerows.errors import BadCascade, BadNumber, BadSize
from plain import NO_SIZES, NO_WHOLES, PARTS, Raises, is_plain_cascade, spoiled

SUMS = (lower_sets, upper_sets, lower_products, upper_products)
GREAT = 10 ** 30


def choices(a, b):
    """C(a, b), worked out by falling products."""
    return prod(range(a - b + 1, a + 1)) // factorial(b) if b <= a else 0


def plain_cascade(number, size):
    """The cascade by its definition, each top found by going down binary places."""
    tops = []
    while number:
        top = 0
        for place in reversed(range(120)):
            if choices(top + (1 << place), size) <= number:
                top += 1 << place
        tops.append(top)
        number -= choices(top, size)
        size -= 1
    return tuple(tops)


def plain_sums(number, size):
    """The four sums, each C(a, b) looked at as written in the document."""
    cascade = plain_cascade(number, size)
    places = [(top, size - at) for at, top in enumerate(cascade)]
    return (
        sum(choices(a, i - 1) for a, i in places),
        sum(choices(a, i + 1) for a, i in places),
        sum(choices(a - 1, i - 1) for a, i in places),
        sum(choices(a + 1, i + 1) for a, i in places),
    )


def some_pairs():
    """Numbers and sizes: all small ones, and many great ones up to the limits."""
    pairs = [(number, size) for size in range(1, 17) for number in range(70)]
    chance = random.Random(1927)
    for size in range(1, 17):
        for length in range(2, 31):
            pairs.append((chance.randrange(10 ** length), size))
        for top in (size, size + 1, 2 * size + 3, 40):
            for step in (-1, 0, 1):
                pairs.append((choices(top, size) + step, size))
        pairs.extend([(GREAT, size), (GREAT - 1, size)])
    return [(number, size) for number, size in pairs if number <= GREAT]


def least_and_most(great, small, small_in):
    """For each n: the least number of small things within n great ones, the most great things of n small ones.

    small_in tells the small things within a great one; all lots of great things are looked at.
    """
    place = {part: 1 << at for at, part in enumerate(small)}
    within = [sum({place[part] for part in small_in(thing)}) for thing in great]
    covered = [0] * (1 << len(great))
    least = {0: 0}
    for lot in range(1, 1 << len(great)):
        first = lot & -lot
        covered[lot] = covered[lot - first] | within[first.bit_length() - 1]
        many = bin(lot).count("1")
        least[many] = min(least.get(many, len(small)), bin(covered[lot]).count("1"))
    most = {n: max(many for many in least if least[many] <= n) for n in range(len(small) + 1)}
    return least, most


def divisors(product):
    return {product[:at] + product[at + 1:] for at in range(len(product))}


class Cascades(unittest.TestCase):

    def test_all_cascades_tell_each_number_once(self):
        for size in range(1, 6):
            bound = size + 5
            found = {}
            for length in range(size + 1):
                for tops in combinations(range(bound, 0, -1), length):
                    if all(top >= size - at for at, top in enumerate(tops)):
                        found.setdefault(sum(choices(top, size - at) for at, top in enumerate(tops)), []).append(tops)
                        self.assertIs(is_cascade(size, tops), True)
                    else:
                        self.assertIs(is_cascade(size, tops), False)
            self.assertEqual(sorted(found), list(range(choices(bound + 1, size))))
            for number, cascades in found.items():
                self.assertEqual([cascade_of(number, size)], cascades)
                self.assertEqual(number_of(size, cascades[0]), number)

    def test_cascades_lead_to_their_number_and_back(self):
        for number, size in some_pairs():
            cascade = cascade_of(number, size)
            self.assertEqual(cascade, plain_cascade(number, size), (number, size))
            self.assertTrue(is_plain_cascade(size, cascade))
            self.assertIs(is_cascade(size, cascade), True)
            self.assertEqual(number_of(size, cascade), number)
            self.assertEqual(sum(choices(top, size - at) for at, top in enumerate(cascade)), number)

    def test_zero(self):
        for size in range(1, 17):
            self.assertEqual(cascade_of(0, size), ())
            self.assertEqual(number_of(size, ()), 0)
            self.assertIs(is_cascade(size, ()), True)
            self.assertEqual([call(0, size) for call in SUMS], [0, 0, 0, 0])

    def test_size_one(self):
        for number in (1, 2, 7, GREAT):
            self.assertEqual(cascade_of(number, 1), (number,))
            self.assertEqual(lower_sets(number, 1), 1)
            self.assertEqual(upper_sets(number, 1), number * (number - 1) // 2)
            self.assertEqual(lower_products(number, 1), 1)
            self.assertEqual(upper_products(number, 1), number * (number + 1) // 2)

    def test_somewhat_beyond_the_limits(self):
        for number, size in ((10 ** 40, 16), (upper_sets(GREAT, 1), 2), (upper_products(GREAT, 2), 3), (GREAT, 40)):
            self.assertEqual(cascade_of(number, size), plain_cascade(number, size))
            self.assertEqual(tuple(call(number, size) for call in SUMS), plain_sums(number, size))
        self.assertEqual(cascade_of(5, 10 ** 6), tuple(range(10 ** 6, 10 ** 6 - 5, -1)))


class Sums(unittest.TestCase):

    def test_sums_worked_out_another_way(self):
        for number, size in some_pairs():
            self.assertEqual(tuple(call(number, size) for call in SUMS), plain_sums(number, size), (number, size))

    def test_least_shadows_and_most_sets_above(self):
        for points, size in ((6, 1), (5, 2), (6, 2), (5, 3), (5, 4), (6, 5)):
            small = list(combinations(range(points), size - 1))
            great = list(combinations(range(points), size))
            least, most = least_and_most(great, small, lambda thing: combinations(thing, len(thing) - 1))
            for n, shadow in least.items():
                self.assertEqual(lower_sets(n, size), shadow, (n, size))
            if size > 1:
                for n, above in most.items():
                    self.assertEqual(upper_sets(n, size - 1), above, (n, size))

    def test_least_divisors_and_most_products_above(self):
        for letters, degree in ((6, 1), (3, 2), (4, 2), (5, 2), (2, 3), (3, 3), (2, 6), (3, 4)):
            small = list(combinations_with_replacement(range(letters), degree - 1))
            great = list(combinations_with_replacement(range(letters), degree))
            least, most = least_and_most(great, small, divisors)
            for n, shadow in least.items():
                self.assertEqual(lower_products(n, degree), shadow, (n, degree))
            if degree > 1:
                for n, above in most.items():
                    self.assertEqual(upper_products(n, degree - 1), above, (n, degree))


class Together(unittest.TestCase):

    def pairs_of_functions(self):
        return ((lower_sets, upper_sets), (lower_products, upper_products))

    def test_lower_and_upper_say_the_same(self):
        for lower, upper in self.pairs_of_functions():
            for size in range(1, 6):
                for n in range(30):
                    for m in range(60):
                        self.assertEqual(lower(m, size + 1) <= n, m <= upper(n, size), (m, n, size))

    def test_lower_and_upper_say_the_same_of_great_numbers(self):
        chance = random.Random(1968)
        for lower, upper in self.pairs_of_functions():
            for size in range(1, 16):
                for length in (3, 9, 20, 30):
                    n = chance.randrange(10 ** length)
                    most = upper(n, size)
                    self.assertLessEqual(lower(most, size + 1), n)
                    self.assertGreater(lower(most + 1, size + 1), n)

    def test_no_sum_falls(self):
        for call in SUMS:
            for size in (1, 2, 3, 5, 16):
                row = [call(number, size) for number in range(300)]
                self.assertEqual(row, sorted(row))
                for number in (10 ** 9, 10 ** 20, GREAT - 1):
                    self.assertLessEqual(call(number, size), call(number + 1, size))

    def test_lower_numbers_of_a_sum(self):
        for lower in (lower_sets, lower_products):
            for size in range(1, 7):
                row = [lower(number, size) for number in range(121)]
                for m in range(61):
                    for n in range(61):
                        self.assertLessEqual(row[m + n], row[m] + row[n])
                for m, n in ((10 ** 20, 10 ** 29), (GREAT // 2, GREAT // 2), (1, GREAT - 1)):
                    self.assertLessEqual(lower(m + n, size), lower(m, size) + lower(n, size))


class WrongInputs(unittest.TestCase, Raises):

    def test_numbers_and_sizes(self):
        for call in (cascade_of,) + SUMS:
            for wrong in NO_WHOLES:
                self.assert_bad(BadNumber, wrong, call, wrong, 3)
                self.assert_bad(BadNumber, wrong, call, number=wrong, size=3)
            for wrong in NO_SIZES:
                self.assert_bad(BadSize, wrong, call, 8, wrong)
                self.assert_bad(BadSize, wrong, call, 0, wrong)
                self.assert_bad(BadSize, wrong, call, size=wrong, number=8)
            for first in NO_WHOLES:
                for second in NO_SIZES:
                    self.assert_bad(BadNumber, first, call, first, second)

    def test_sizes_of_cascades(self):
        for call in (is_cascade, number_of):
            for wrong in NO_SIZES:
                for cascade in ((), (4, 3, 1), None, [4], (True,), (0,)):
                    self.assert_bad(BadSize, wrong, call, wrong, cascade)

    def test_all_kinds_of_values_as_cascades(self):
        for size in (1, 2, 3, 5, 16):
            for cascade in ((), cascade_of(8, size), cascade_of(100, size), cascade_of(GREAT, size)):
                for thing in spoiled(cascade):
                    right = is_plain_cascade(size, thing)
                    self.assertIs(is_cascade(size, thing), right, (size, thing))
                    self.assertIs(is_cascade(size=size, thing=thing), right)
                    if right:
                        self.assertEqual(cascade_of(number_of(size, thing), size), thing)
                    else:
                        self.assert_bad(BadCascade, thing, number_of, size, thing)
            for thing in NO_SIZES + PARTS:
                right = is_plain_cascade(size, thing)
                self.assertIs(is_cascade(size, thing), right)
                if not right:
                    self.assert_bad(BadCascade, thing, number_of, size, thing)

    def test_some_that_are_no_cascades(self):
        for size, thing in (
            (3, (4, 4)), (3, (3, 4)), (2, (3, 0)), (3, (2,)), (3, (4, 1)), (2, (4, 3, 2)), (1, (2, 1)), (3, [4, 3, 1]),
            (1, (True,)), (2, (2, True)), (3, (4, 3, 1, 0)), (2, (-1,)), (2, (3, -1)), (1, ("1",)), (1, ((1,),)),
        ):
            self.assertIs(is_cascade(size, thing), False)
            self.assert_bad(BadCascade, thing, number_of, size, thing)


if __name__ == "__main__":
    unittest.main()
