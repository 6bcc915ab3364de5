"""Promises [3.1] and [3.2], and holerows/firsts.py."""

import random
import unittest
from itertools import combinations, product

from holerows.cascades import lower_sets
from holerows.errors import BadCounts, BadNumber, BadSet, BadSets, BadSize, NotFit, TooGreat
from holerows.families import counts_of, faces_of
from holerows.firsts import (
    counts_hold, first_family, first_sets, is_counts, judge_counts, set_at, set_number, shadow_of,
)
from plain import (
    NO_INTEGERS, NO_SIZES, NO_WHOLES, PARTS, Raises, error_of, families_of, is_plain_counts, is_plain_family,
    is_plain_set, many_families, plain_listing, points_number, spoiled,
)

GREAT = 10 ** 30


def plain_certificates(counts):
    """All certificates for counts, as the document words them."""
    lowers = [lower_sets(counts[k], k + 1) for k in range(1, len(counts))]
    wrong = [("size", k + 1) for k, lower in enumerate(lowers) if lower > counts[k]]
    return wrong or [("fits", tuple(lowers))]


def is_plain_certificate(counts, thing):
    """repr tells bools from integers and lists from tuples."""
    return repr(thing) in [repr(right) for right in plain_certificates(counts)]


def is_plain_lot(thing):
    """Whether a value is a tuple of sets of one size, at least 1."""
    if type(thing) is not tuple or not all(is_plain_set(part) for part in thing):
        return False
    return len({len(part) for part in thing}) <= 1 and () not in thing


class Order(unittest.TestCase, Raises):

    def test_against_a_listing(self):
        for size in range(1, 8):
            listing = plain_listing(9, size)
            for number, points in enumerate(listing):
                self.assertEqual(set_number(points), number)
                self.assertEqual(set_at(size, number), points)
            for many in range(min(len(listing), 60) + 1):
                self.assertEqual(first_sets(size, many), tuple(listing[:many]))
            self.assertEqual(first_sets(size, len(listing)), tuple(listing))

    def test_edges(self):
        for size in range(1, 25):
            self.assertEqual(set_at(size, 0), tuple(range(size)))
            self.assertEqual(set_number(tuple(range(size))), 0)
            self.assertEqual(set_at(size, size), tuple(range(1, size + 1)))
            self.assertEqual(first_sets(size, 0), ())
            self.assertEqual(first_sets(size, 1), (tuple(range(size)),))
        for number in (0, 1, 2, 7, 10 ** 30, 10 ** 39):
            self.assertEqual(set_at(1, number), (number,))
            self.assertEqual(set_number((number,)), number)
        self.assertEqual(set_number((0, GREAT)), GREAT * (GREAT - 1) // 2)
        self.assertEqual(set_number((GREAT - 1, GREAT)), GREAT - 1 + GREAT * (GREAT - 1) // 2)
        self.assertEqual(len(first_sets(16, 200)), 200)
        self.assertEqual(first_sets(1, 200), tuple((point,) for point in range(200)))

    def test_back_and_forth_at_great_numbers(self):
        chance = random.Random(31)
        for size in range(1, 18):
            for number in [chance.randrange(10 ** chance.randint(1, 30)) for _ in range(40)] + [GREAT, GREAT - 1]:
                points = set_at(size, number)
                self.assertTrue(is_plain_set(points))
                self.assertEqual(len(points), size)
                self.assertEqual(set_number(points), number)
            for digits in (1, 2, 5, 12, 30):
                points = tuple(sorted({chance.randrange(10 ** digits + 20) for _ in range(60)}))[:size]
                self.assertEqual(set_at(len(points), set_number(points)), points)

    def test_the_first_sets_follow_one_another(self):
        for size in (2, 7, 16):
            sets = first_sets(size, 200)
            self.assertEqual([set_number(points) for points in sets], list(range(200)))

    def test_by_name(self):
        self.assertEqual(set_number(points=(0, 2, 3)), 2)
        self.assertEqual(set_at(number=2, size=3), (0, 2, 3))
        self.assertEqual(first_sets(many=2, size=2), ((0, 1), (0, 2)))


class Shadows(unittest.TestCase):

    def check(self, sets):
        told = {tuple(sorted(set(points) - {point})) for points in sets for point in points}
        self.assertEqual(repr(shadow_of(sets)), repr(tuple(sorted(told))))

    def test_against_plain_looks(self):
        chance = random.Random(63)
        for size in range(1, 7):
            listing = plain_listing(9, size)
            for many in (1, 2, 3, 7, 20, len(listing)):
                sets = chance.sample(listing, min(many, len(listing)))
                self.check(tuple(sets))
                self.check(tuple(sets + sets[:2]))

    def test_edges(self):
        self.assertEqual(shadow_of(()), ())
        self.assertEqual(shadow_of(((0,),)), ((),))
        self.assertEqual(shadow_of(((5,), (3,), (5,))), ((),))
        self.assertEqual(shadow_of(((3, GREAT),)), ((3,), (GREAT,)))
        sixteen = tuple(range(0, 160, 10))
        self.assertEqual(shadow_of((sixteen,)), tuple(sorted(combinations(sixteen, 15))))
        self.check(first_sets(16, 200))

    def test_shadows_of_first_sets_are_first_sets(self):
        for size in range(2, 9):
            for many in list(range(30)) + [56, 57, 126, 127, 199, 200]:
                below = lower_sets(many, size)
                self.assertEqual(shadow_of(first_sets(size, many)), tuple(sorted(first_sets(size - 1, below))))

    def test_no_sets_have_a_smaller_shadow(self):
        for size in (2, 3):
            listing = plain_listing(5, size)
            for marks in range(1 << len(listing)):
                sets = tuple(points for at, points in enumerate(listing) if marks >> at & 1)
                self.assertGreaterEqual(len(shadow_of(sets)), lower_sets(len(sets), size))


class Counts(unittest.TestCase, Raises):

    def test_counts(self):
        for thing in ((), (1,), (10 ** 39,), (1,) * 16, tuple(range(1, 17)), (GREAT,) * 16):
            self.assertIs(is_counts(thing), True)
        for thing in ((0,), (-1,), (1, 0), (True,), (1, True), [1], "1", 1, None, (1,) * 17, ((1,),), (1, None), {1: 1}):
            self.assertIs(is_counts(thing), False, thing)
        for base in ((), (1,), (4, 5, 1), (2,) * 16):
            for thing in spoiled(base):
                self.assertIs(is_counts(thing), is_plain_counts(thing), thing)
                self.assertIs(is_counts(thing=thing), is_plain_counts(thing))

    def some_counts(self):
        chance = random.Random(19)
        some = [counts for length in range(4) for counts in product(range(1, 6), repeat=length)]
        for digits in (1, 2, 3, 10, 30):
            for length in (1, 2, 5, 15, 16):
                some.append(tuple(chance.randint(1, 10 ** digits) for _ in range(length)))
        some.extend(counts_of(family) for family in many_families())
        some.extend([(GREAT,) * 16, (16,) + (1,) * 15, tuple([1] * 15 + [GREAT])])
        for size in range(2, 17):
            row = [chance.randint(10 ** 10, GREAT)]
            for k in range(size, 1, -1):
                row.append(lower_sets(row[-1], k))
            some.append(tuple(row[::-1]))
            some.append((row[-1] - 1,) + tuple(row[:-1][::-1]))
        return some

    def test_certificates(self):
        kinds = set()
        for counts in self.some_counts():
            told = judge_counts(counts)
            kinds.add(told[0])
            self.assertEqual(repr(told), repr(judge_counts(counts=counts)))
            self.assertTrue(is_plain_certificate(counts, told), (counts, told))
            for right in plain_certificates(counts):
                self.assertIs(counts_hold(counts, right), True)
                self.assertIs(counts_hold(thing=right, counts=counts), True)
        self.assertEqual(kinds, {"fits", "size"})

    def test_certificates_with_a_change(self):
        for counts in ((), (5,), (1, 1), (4, 5, 1), (4, 5, 2), (4, 5, 3), (1, 1, 1), (1, 2, 3), (3, 9, 9, 9)):
            things = [("size", k) for k in range(-1, 5)] + [("fits", ()), ("fits",), ("size",), ("fits", True), "fits"]
            for right in plain_certificates(counts):
                things.extend(spoiled(right))
            for thing in things + list(NO_WHOLES + PARTS):
                self.assertIs(counts_hold(counts, thing), is_plain_certificate(counts, thing), (counts, thing))

    def test_just_the_counts_of_families(self):
        told = {counts_of(family) for n in range(1, 5) for family in families_of(n)}
        for length in range(1, 5):
            for counts in product(range(1, 8), repeat=length):
                if counts[0] <= 4:
                    self.assertEqual(judge_counts(counts)[0] == "fits", counts in told, counts)


class FirstFamilies(unittest.TestCase, Raises):

    def check(self, counts):
        family = first_family(counts)
        self.assertTrue(is_plain_family(family))
        self.assertEqual(counts_of(family), counts)
        for size, many in enumerate(counts, start=1):
            self.assertEqual(faces_of(family, size), tuple(sorted(plain_listing(counts[0], size)[:many])))

    def test_all_small_counts(self):
        for length in range(5):
            for counts in product(range(1, 8), repeat=length):
                if judge_counts(counts)[0] == "fits":
                    self.check(counts)
                else:
                    error = error_of(first_family, counts)
                    self.assertIs(type(error), NotFit)
                    self.assertTrue(is_plain_certificate(counts, error.certificate))
                    self.assertTrue(counts_hold(counts, error.certificate))

    def test_the_counts_of_many_families(self):
        for family in many_families():
            self.check(counts_of(family))
            self.assertEqual(points_number(first_family(counts=counts_of(family))), points_number(family))

    def test_edges(self):
        self.assertEqual(first_family(()), ())
        self.assertEqual(first_family((1,)), ((0,),))
        self.assertEqual(first_family((9,)), tuple((point,) for point in range(9)))
        self.assertEqual(first_family((9, 36, 84, 126, 126, 84, 36, 9, 1)), (tuple(range(9)),))
        self.assertEqual(first_family((9, 36, 84, 126)), tuple(combinations(range(9), 4)))

    def test_too_many_points_come_behind_what_does_not_fit(self):
        for counts in ((10,), (GREAT,), (10, 3), (11, 55, 165), (10 ** 39, 1)):
            self.assert_raises_with(TooGreat, "points", counts[0], first_family, counts)
        for counts in ((10, 46), (10, 3, 2), (GREAT, 1, 1)):
            self.assertIs(type(error_of(first_family, counts)), NotFit)


class WrongInputs(unittest.TestCase, Raises):

    def test_sets(self):
        for wrong in NO_WHOLES + PARTS + tuple(spoiled((0, 2, 3))):
            if not is_plain_set(wrong) or wrong == ():
                self.assert_bad(BadSet, wrong, set_number, wrong)
                self.assert_bad(BadSet, wrong, set_number, points=wrong)

    def test_sizes_and_numbers(self):
        for call in (set_at, first_sets):
            for wrong in NO_SIZES:
                for second in (0, 3, -1, True, None, [2]):
                    self.assert_bad(BadSize, wrong, call, wrong, second)
            for wrong in NO_WHOLES:
                for size in (1, 2, 16):
                    self.assert_bad(BadNumber, wrong, call, size, wrong)
        for wrong in NO_WHOLES:
            self.assert_bad(BadNumber, wrong, set_at, number=wrong, size=2)
            self.assert_bad(BadNumber, wrong, first_sets, many=wrong, size=2)

    def test_lots_of_sets(self):
        wrong = list(NO_INTEGERS + PARTS) + [((),), ((), ()), ((0,), (0, 1)), ((0,), ()), ((0, 1), (1, 0))]
        for base in (((0,),), ((0, 1), (1, 2)), ((0, 2, 4), (0, 2, 4))):
            wrong.extend(spoiled(base))
        for thing in wrong:
            if is_plain_lot(thing):
                self.assertIs(type(shadow_of(thing)), tuple)
            else:
                self.assert_bad(BadSets, thing, shadow_of, thing)
                self.assert_bad(BadSets, thing, shadow_of, sets=thing)

    def test_counts(self):
        for wrong in NO_INTEGERS + PARTS + ((1,) * 17, (1, 0), (4, True), [4, 5]) + tuple(spoiled((4, 5, 1))):
            if not is_plain_counts(wrong):
                self.assert_bad(BadCounts, wrong, judge_counts, wrong)
                self.assert_bad(BadCounts, wrong, first_family, wrong)
                self.assert_bad(BadCounts, wrong, first_family, counts=wrong)
                for thing in (("fits", ()), ("size", 1), None, wrong):
                    self.assert_bad(BadCounts, wrong, counts_hold, wrong, thing)


if __name__ == "__main__":
    unittest.main()
