"""Promises [6.1] to [6.4], and holerows/ends.py."""

import random
import unittest
from itertools import product

from holerows.builds import cone_of, hung_of, join_of
from holerows.cascades import lower_sets
from holerows.ends import (
    all_hole_rows, has_hole_row, join_counts, join_holes, least_counts, least_holes, least_rests, many_hole_rows,
    most_holes,
)
from holerows.errors import BadCounts, BadHoles, NotFit, TooMany
from holerows.families import counts_of
from holerows.firsts import counts_hold, judge_counts
from holerows.holes import holes_of
from holerows.rows import judge_rows, near_cone
from plain import (
    FIELDS, NO_INTEGERS, NO_WHOLES, PARTS, Raises, error_of, families_of, is_plain_counts, is_plain_integer,
    points_number, some_families, spoiled,
)

GREAT = 10 ** 30
SMALL = [family for n in range(1, 5) for family in families_of(n)]
OF_COUNTS = (least_rests, most_holes, least_holes, many_hole_rows, all_hole_rows)
# Counts of three integers whose families have just so many different holes.
WITH_200 = ((20, 50, 35), (59, 42, 29), (59, 59, 11))
WITH_201 = ((19, 54, 41), (58, 54, 14), (59, 54, 14))


def found_rows():
    """For all counts of families of up to four points, all the holes that these families have."""
    found = {}
    for family in SMALL:
        for p in FIELDS:
            found.setdefault(counts_of(family), set()).add(holes_of(family, p))
    return found


def plain_least_rests(counts):
    least = [1]
    for k in range(1, len(counts)):
        c = 0
        while lower_sets(counts[k] - c, k + 1) > c:
            c += 1
        least.append(c)
    return tuple(least + [0])


def plain_rows(counts):
    """All holes that fit with the counts, by a look at all holes of so many faces."""
    rows = product(*[range(many + 1) for many in counts])
    return [holes for holes in rows if judge_rows(counts, holes)[0] == "fits"]


def plain_many(counts):
    """The number of the tuples of rests that [6.1] describes, counted step by step."""
    least = plain_least_rests(counts)
    ways = {1: 1}
    for k in range(len(counts)):
        places = range(least[k + 1], counts[k] + 1) if k + 1 < len(counts) else range(1)
        ways = {c: sum(many for last, many in ways.items() if last + c <= counts[k]) for c in places}
    return sum(ways.values())


def fitting(greatest, lengths):
    """All counts of some family whose integers are at most so great."""
    for length in lengths:
        for counts in product(range(1, greatest + 1), repeat=length):
            if judge_counts(counts)[0] == "fits":
                yield counts


def great_counts():
    """Counts of some family, of up to sixteen integers of up to thirty digits."""
    chance = random.Random(6)
    for digits in (2, 8, 30):
        for length in (1, 2, 3, 8, 16):
            row = [chance.randint(1, 10 ** digits)]
            for size in range(length, 1, -1):
                row.append(min(max(lower_sets(row[-1], size), chance.randint(1, 10 ** digits)), GREAT))
            counts = tuple(row[::-1])
            if judge_counts(counts)[0] == "fits":
                yield counts


class Rests(unittest.TestCase):

    def test_against_steps(self):
        for counts in fitting(12, (1, 2, 3)):
            self.assertEqual(repr(least_rests(counts)), repr(plain_least_rests(counts)), counts)
            self.assertEqual(least_rests(counts=counts), least_rests(counts))

    def test_great_counts(self):
        many = 0
        for counts in great_counts():
            least = least_rests(counts)
            self.assertEqual((least[0], least[-1], len(least)), (1, 0, len(counts) + 1))
            for k in range(1, len(counts)):
                self.assertLessEqual(lower_sets(counts[k] - least[k], k + 1), least[k])
                self.assertGreater(lower_sets(counts[k] - least[k] + 1, k + 1), least[k] - 1)
            many += 1
        self.assertGreater(many, 10)

    def test_edges(self):
        for counts, least in (((1,), (1, 0)), ((GREAT,), (1, 0)), ((2, 1), (1, 1, 0)), ((3, 3), (1, 2, 0)),
                              ((4, 6, 4, 1), (1, 3, 3, 1, 0)), ((3, 3, 1), (1, 2, 1, 0))):
            self.assertEqual(least_rests(counts), least)


class HoleRows(unittest.TestCase, Raises):

    def test_the_families_of_few_points(self):
        for counts, found in found_rows().items():
            self.assertEqual(repr(all_hole_rows(counts)), repr(tuple(sorted(found))))
            self.assertEqual(many_hole_rows(counts), len(found))
            self.assertIn(most_holes(counts), found)
            for k in range(len(counts)):
                alone = sorted({holes[k] for holes in found})
                self.assertEqual((least_holes(counts)[k], most_holes(counts)[k]), (alone[0], alone[-1]))
                self.assertEqual(alone, list(range(alone[0], alone[-1] + 1)))
            for holes in product(*[range(min(many, 4) + 1) for many in counts]):
                self.assertIs(has_hole_row(counts, holes), holes in found)
                self.assertIs(has_hole_row(thing=holes, counts=counts), holes in found)

    def test_a_look_at_all_holes(self):
        for counts in list(fitting(9, (1, 2))) + list(fitting(7, (3,))) + [(5, 9, 6, 1), (6, 7, 4, 1), (5, 8, 5, 1)]:
            rows = plain_rows(counts)
            self.assertEqual(all_hole_rows(counts), tuple(rows), counts)
            self.assertEqual(many_hole_rows(counts=counts), len(rows))
            most = tuple(max(holes[k] for holes in rows) for k in range(len(counts)))
            self.assertEqual(most_holes(counts), most)
            self.assertEqual(most_holes(counts=counts), most)
            self.assertIn(most, rows)
            least = tuple(min(holes[k] for holes in rows) for k in range(len(counts)))
            self.assertEqual(least_holes(counts), least, counts)
            self.assertEqual(least_holes(counts=counts), least)
            for k in range(len(counts)):
                self.assertEqual({holes[k] for holes in rows}, set(range(least[k], most[k] + 1)))

    def test_the_near_cone_has_the_most_holes(self):
        for family in some_families():
            if family:
                counts = counts_of(family)
                told = near_cone(counts, most_holes(counts))
                for p in FIELDS:
                    self.assertEqual(holes_of(told, p), most_holes(counts))
                    for k, many in enumerate(holes_of(family, p)):
                        self.assertTrue(least_holes(counts)[k] <= many <= most_holes(counts)[k])

    def test_great_counts(self):
        for counts in great_counts():
            most = most_holes(counts)
            self.assertIs(has_hole_row(counts, most), True)
            for k in range(len(counts)):
                more = most[:k] + (most[k] + 1,) + most[k + 1:]
                self.assertIs(has_hole_row(counts, more), False)
                self.assertTrue(0 <= least_holes(counts)[k] <= most[k])
            self.assertIs(has_hole_row(counts, list(most)), False)

    def test_the_number_of_rows(self):
        for counts in (WITH_200 + WITH_201 + ((12, 30, 20, 5), (10, 30, 30, 12, 2), (200,), (200, 150))):
            told = all_hole_rows(counts, most=10 ** 6)
            self.assertEqual(len(told), many_hole_rows(counts), counts)
            self.assertEqual(list(told), sorted(set(told)))
            self.assertEqual(many_hole_rows(counts), plain_many(counts))
            for holes in told[::7]:
                self.assertEqual(judge_rows(counts, holes)[0], "fits")

    def test_counts_of_many_rows(self):
        for counts in ((200, 200), (200,) * 3, (200,) * 4, (40, 200, 200, 200, 200), (200,) * 4 + (160, 84, 36, 9, 1),
                       (200,) * 5 + (84, 36, 9, 1), (9, 36, 84, 126, 126, 84, 36, 9, 1), (200, 199, 3), (1,), (200,)):
            self.assertEqual(many_hole_rows(counts), plain_many(counts))
        self.assertEqual(many_hole_rows((200,) * 4 + (160, 84, 36, 9, 1)), 1732290)

    def test_most(self):
        for counts in WITH_200:
            self.assertEqual(len(all_hole_rows(counts)), 200)
            self.assertEqual(len(all_hole_rows(counts, most=200)), 200)
            self.assertEqual(len(all_hole_rows(most=201, counts=counts)), 200)
            self.assert_raises_with(TooMany, "most", 199, all_hole_rows, counts, most=199)
        for counts in WITH_201:
            self.assertEqual(many_hole_rows(counts), 201)
            self.assert_raises_with(TooMany, "most", 200, all_hole_rows, counts)
            self.assert_raises_with(TooMany, "most", 200, all_hole_rows, counts, most=200)
            self.assertEqual(len(all_hole_rows(counts, most=201)), 201)
        for counts in ((200, 200, 200), (200,) * 4 + (160, 84, 36, 9, 1)):
            self.assert_raises_with(TooMany, "most", 200, all_hole_rows, counts)
        for counts in ((1,), (3, 3), (4, 5, 1)):
            self.assert_raises_with(TooMany, "most", 0, all_hole_rows, counts, most=0)
            self.assertEqual(len(all_hole_rows(counts, most=1)), 1)
        self.assertIs(type(error_of(all_hole_rows, (3, 3), 200)), TypeError)

    def test_all_kinds_of_values_as_holes(self):
        for counts in ((1,), (3, 3), (4, 3), (4, 5, 1), (5, 3, 1)):
            rows = [repr(holes) for holes in plain_rows(counts)]
            things = list(NO_WHOLES + PARTS) + [(0,) * (len(counts) + 1), [0] * len(counts)]
            for holes in plain_rows(counts):
                things.extend(spoiled(holes))
            for thing in things:
                self.assertIs(has_hole_row(counts, thing), repr(thing) in rows, (counts, thing))


class LeastCounts(unittest.TestCase):

    def some_holes(self):
        some = [holes for length in range(1, 5) for holes in product(range(4), repeat=length) if holes[-1]]
        chance = random.Random(63)
        for digits in (2, 10, 30):
            for length in (1, 2, 5, 15, 16):
                holes = [chance.choice([0, chance.randrange(10 ** digits)]) for _ in range(length - 1)]
                some.append(tuple(holes + [chance.randint(1, 10 ** digits)]))
        return some

    def test_against_the_sums(self):
        for holes in self.some_holes():
            d = len(holes)
            c = {0: 1, d: 0}
            for k in range(d - 1, 0, -1):
                c[k] = lower_sets(c[k + 1] + holes[k], k + 1)
            told = least_counts(holes)
            self.assertEqual(repr(told), repr(tuple(c[k + 1] + c[k] + holes[k] for k in range(d))))
            self.assertEqual(least_counts(holes=holes), told)

    def test_they_fit_and_fewer_do_not(self):
        for holes in self.some_holes():
            counts = least_counts(holes)
            self.assertEqual(judge_rows(counts, holes)[0], "fits")
            for k, many in enumerate(counts):
                if many > 1:
                    fewer = counts[:k] + (many - 1,) + counts[k + 1:]
                    self.assertNotEqual(judge_rows(fewer, holes)[0], "fits")

    def test_no_counts_that_fit_have_less_anywhere(self):
        for holes in product(range(3), repeat=3):
            if holes[-1]:
                least = least_counts(holes)
                for counts in product(*[range(1, many + 2) for many in least]):
                    if any(many < bound for many, bound in zip(counts, least)):
                        self.assertNotEqual(judge_rows(counts, holes)[0], "fits", (holes, counts))

    def test_the_families_of_few_points(self):
        for family in SMALL + [family for family in some_families() if family]:
            for p in FIELDS:
                holes = holes_of(family, p)
                while holes and holes[-1] == 0:
                    holes = holes[:-1]
                least = least_counts(holes)
                self.assertLessEqual(len(least), len(counts_of(family)))
                for bound, many in zip(least, counts_of(family)):
                    self.assertLessEqual(bound, many)

    def test_edges(self):
        self.assertEqual(least_counts(()), (1,))
        self.assertEqual(least_counts((1,)), (2,))
        self.assertEqual(least_counts((GREAT,)), (GREAT + 1,))
        for d in range(1, 17):
            sphere = least_counts((0,) * (d - 1) + (1,))
            self.assertEqual((sphere[0], sphere[-1], len(sphere)), (d + 1, d + 1, d))


class PutTogether(unittest.TestCase):

    def test_joins(self):
        families = [family for family in some_families() if points_number(family) < 5] + SMALL[::15]
        for one in families:
            for other in families:
                joined = join_of(one, other)
                told = join_counts(counts_of(one), counts_of(other))
                self.assertEqual(repr(told), repr(counts_of(joined)))
                self.assertEqual(join_counts(other=counts_of(other), one=counts_of(one)), told)
                if one and other:
                    rows = holes_of(one, 2), holes_of(other, 2)
                    self.assertEqual(repr(join_holes(*rows)), repr(holes_of(joined, 2)))
                    self.assertEqual(join_holes(other=rows[1], one=rows[0]), holes_of(joined, 2))

    def test_cones_and_hung_families(self):
        for family in some_families():
            if family and points_number(family) < 8:
                for p in FIELDS:
                    holes = holes_of(family, p)
                    self.assertEqual(join_counts(counts_of(family), (1,)), counts_of(cone_of(family)))
                    self.assertEqual(join_holes(holes, (0,)), (0,) * (len(holes) + 1))
                    self.assertEqual(join_holes(holes, (0,)), holes_of(cone_of(family), p))
                    self.assertEqual(join_counts(counts_of(family), (2,)), counts_of(hung_of(family)))
                    self.assertEqual(join_holes(holes, (1,)), (0,) + holes)
                    self.assertEqual(join_holes((1,), holes), holes_of(hung_of(family), p))

    def test_edges(self):
        self.assertEqual(join_counts((), ()), ())
        self.assertEqual(join_counts((GREAT,), ()), (GREAT,))
        self.assertEqual(join_counts((), (GREAT, 1)), (GREAT, 1))
        self.assertEqual(join_counts((GREAT,), (GREAT,)), (2 * GREAT, GREAT ** 2))
        self.assertEqual(join_holes((GREAT,), (GREAT,)), (0, GREAT ** 2))
        self.assertEqual(join_holes((0,), (0,)), (0, 0))
        ones = join_counts((1,) * 16, (1,) * 16)
        self.assertEqual(ones, tuple(range(2, 18)) + tuple(range(16, 0, -1)))
        self.assertEqual(len(join_holes((1,) * 16, (2,) * 16)), 32)
        # Whether some family has the counts is not asked.
        self.assertEqual(join_counts((1, 5), (1,)), (2, 6, 5))


class WrongInputs(unittest.TestCase, Raises):

    def wrong_counts(self):
        wrong = NO_INTEGERS + PARTS + ((1,) * 17, (1, 0), (4, True), [4, 5]) + tuple(spoiled((4, 5, 1)))
        return [thing for thing in wrong if not is_plain_counts(thing)]

    def test_counts(self):
        for wrong in self.wrong_counts() + [()]:
            for call in OF_COUNTS:
                self.assert_bad(BadCounts, wrong, call, wrong)
                self.assert_bad(BadCounts, wrong, call, counts=wrong)
            self.assert_bad(BadCounts, wrong, all_hole_rows, wrong, most=0)
            for thing in ((), (0,), None):
                self.assert_bad(BadCounts, wrong, has_hole_row, wrong, thing)

    def test_counts_of_no_family(self):
        for counts in ((1, 1), (4, 5, 3), (3, 4), (4, 6, 4, 2), (GREAT, 1, 1), (1,) * 16, (1, GREAT), (2, 2, 2)):
            for call in OF_COUNTS:
                error = error_of(call, counts)
                self.assertIs(type(error), NotFit)
                self.assertIs(counts_hold(counts, error.certificate), True)
                self.assertEqual(error.certificate[0], "size")
            self.assertIs(type(error_of(all_hole_rows, counts, most=0)), NotFit)
            for thing in ((0,) * len(counts), None, ()):
                self.assertIs(type(error_of(has_hole_row, counts, thing)), NotFit)

    def test_holes(self):
        wrong = list(NO_INTEGERS + PARTS) + [(0,), (1, 0), (GREAT, 0), (0,) * 16, (1,) * 17, (1, True), [1], (-1, 1)]
        wrong.extend(spoiled((0, 1)))
        for thing in wrong:
            right = type(thing) is tuple and len(thing) <= 16 and all(is_plain_integer(part, 0) for part in thing)
            if not right or thing[-1:] == (0,):
                self.assert_bad(BadHoles, thing, least_counts, thing)
                self.assert_bad(BadHoles, thing, least_counts, holes=thing)
            if not right or not thing:
                for other in ((1,), (), None, [1]):
                    self.assert_bad(BadHoles, thing, join_holes, thing, other)
                    self.assert_bad(BadHoles, thing, join_holes, other=other, one=thing)
                self.assert_bad(BadHoles, thing, join_holes, (0, 1), thing)

    def test_counts_of_joins(self):
        for wrong in self.wrong_counts():
            for other in ((), (1,), None, [1]):
                self.assert_bad(BadCounts, wrong, join_counts, wrong, other)
                self.assert_bad(BadCounts, wrong, join_counts, other=other, one=wrong)
            for one in ((), (3, 3), (1,) * 16):
                self.assert_bad(BadCounts, wrong, join_counts, one, wrong)


if __name__ == "__main__":
    unittest.main()
