"""Promises [5.1] to [5.3], and holerows/rows.py."""

import random
import unittest
from itertools import product

from holerows.cascades import lower_sets, upper_sets
from holerows.errors import BadCounts, BadHoles, NotFit, TooGreat
from holerows.families import counts_of
from holerows.holes import holes_of
from holerows.rows import judge_rows, lids_of, near_cone, rests_of, rows_hold
from plain import (
    FIELDS, NO_INTEGERS, NO_WHOLES, PARTS, Raises, error_of, families_of, is_plain_counts, is_plain_family,
    is_plain_integer, many_families, plain_faces, plain_facets, plain_listing, spoiled,
)

GREAT = 10 ** 30
SMALL = [family for n in range(1, 5) for family in families_of(n)]


def is_plain_holes(counts, thing):
    return type(thing) is tuple and len(thing) == len(counts) and all(is_plain_integer(part, 0) for part in thing)


def plain_rests(counts, holes):
    rests = {len(counts): 0}
    for k in range(len(counts) - 1, -1, -1):
        rests[k] = counts[k] - holes[k] - rests[k + 1]
    return tuple(rests[k] for k in range(len(counts) + 1))


def plain_certificates(counts, holes):
    """All certificates for the rows, as the document words them."""
    c = plain_rests(counts, holes)
    wrong = [("sum", c[0])] if c[0] != 1 else []
    wrong += [("below", k) for k in range(len(c)) if c[k] < 0]
    for k in range(1, len(counts)):
        if c[k] >= 0 and c[k + 1] >= 0 and lower_sets(c[k + 1] + holes[k], k + 1) > c[k]:
            wrong.append(("size", k))
    return wrong or [("fits", c)]


def is_plain_certificate(counts, holes, thing):
    """repr tells bools from integers and lists from tuples."""
    return repr(thing) in [repr(right) for right in plain_certificates(counts, holes)]


def plain_lids(counts, holes):
    """The lids, as frozensets: what follows the first sets that the rests count."""
    c = plain_rests(counts, holes)
    lids = []
    for k, many in enumerate(holes):
        listing = plain_listing(counts[0], k + 1)[c[k + 1]:c[k + 1] + many]
        lids.extend(frozenset(point + 1 for point in points) for points in listing)
    return lids


def plain_near_cone(counts, holes):
    c = plain_rests(counts, holes)
    faces = {frozenset(), frozenset({0}), *plain_lids(counts, holes)}
    for k in range(1, len(counts)):
        for points in plain_listing(counts[0], k)[:c[k]]:
            above = frozenset(point + 1 for point in points)
            faces.update([above, above | {0}])
    return faces


def great_rows():
    """Rows of up to 16 integers of up to thirty digits: some that fit barely, some that just do not."""
    chance = random.Random(1988)
    for digits in (1, 3, 12, 29):
        for length in (1, 2, 3, 7, 15, 16):
            for _ in range(4):
                rests = [1] + [0] * length
                holes = [chance.randrange(10 ** digits)] if length == 1 else [0] * length
                if length > 1:
                    rests[1] = chance.randrange(1, 10 ** digits)
                    holes[0] = chance.choice([0, 1, 10 ** digits])
                for k in range(1, length):
                    most = min(upper_sets(rests[k], k), 10 ** digits * 3)
                    rests[k + 1] = chance.randint(0, most) if k + 1 < length else 0
                    holes[k] = chance.choice([0, most - rests[k + 1], (most - rests[k + 1]) // 2])
                yield rests, holes


def counts_with(rests, holes):
    return tuple(rests[k] + rests[k + 1] + holes[k] for k in range(len(holes)))


class Rests(unittest.TestCase):

    def test_against_the_sums(self):
        chance = random.Random(5)
        for length in range(1, 17):
            for digits in (1, 2, 30):
                counts = tuple(chance.randint(1, 10 ** digits) for _ in range(length))
                holes = tuple(chance.randint(0, 10 ** digits) for _ in range(length))
                told = rests_of(counts, holes)
                self.assertEqual(repr(told), repr(plain_rests(counts, holes)))
                self.assertEqual(rests_of(holes=holes, counts=counts), told)
                self.assertEqual(told[-1], 0)
                for k in range(length):
                    self.assertEqual(told[k] + told[k + 1] + holes[k], counts[k])

    def test_edges(self):
        self.assertEqual(rests_of((1,), (0,)), (1, 0))
        self.assertEqual(rests_of((1,), (2,)), (-1, 0))
        self.assertEqual(rests_of((GREAT,) * 16, (GREAT,) * 16), (0,) * 17)
        self.assertEqual(rests_of((GREAT,) * 2, (0,) * 2), (0, GREAT, 0))


class Certificates(unittest.TestCase):

    def check(self, counts, holes):
        told = judge_rows(counts, holes)
        self.assertTrue(is_plain_certificate(counts, holes, told), (counts, holes, told))
        self.assertEqual(repr(judge_rows(holes=holes, counts=counts)), repr(told))
        for right in plain_certificates(counts, holes):
            self.assertIs(rows_hold(counts, holes, right), True)
            self.assertIs(rows_hold(thing=right, holes=holes, counts=counts), True)
        return told[0]

    def test_all_small_rows(self):
        kinds = set()
        for length in range(1, 4):
            for counts in product(range(1, 6), repeat=length):
                for holes in product(range(4), repeat=length):
                    self.check(counts, holes)
                    right = plain_certificates(counts, holes)
                    kinds.update(thing[0] for thing in right)
                    for thing in product(("sum", "below", "size"), range(-2, 5)):
                        self.assertIs(rows_hold(counts, holes, thing), thing in right, (counts, holes, thing))
        self.assertEqual(kinds, {"fits", "sum", "below", "size"})

    def test_rows_of_great_numbers(self):
        many = 0
        for rests, holes in great_rows():
            counts = counts_with(rests, holes)
            if min(counts) > 0:
                many += 1
                self.assertEqual(self.check(counts, tuple(holes)), "fits")
            for k in range(1, len(holes)):
                more = list(holes)
                more[k] = upper_sets(rests[k], k) - rests[k + 1] + 1
                counts = counts_with(rests, more)
                if min(counts) > 0:
                    self.assertEqual(self.check(counts, tuple(more)), "size")
                    self.assertIs(rows_hold(counts, tuple(more), ("size", k)), True)
        self.assertGreater(many, 40)

    def test_just_the_rows_of_families(self):
        """For all families of up to four points, over each field."""
        told = {}
        for family in SMALL:
            for p in FIELDS:
                told.setdefault(counts_of(family), set()).add(holes_of(family, p))
        for length in range(1, 5):
            for counts in product(range(1, 7), repeat=length):
                if counts[0] < 5:
                    for holes in product(*[range(min(many, 4) + 1) for many in counts]):
                        right = holes in told.get(counts, set())
                        self.assertEqual(judge_rows(counts, holes)[0] == "fits", right, (counts, holes))

    def test_the_rows_of_many_families(self):
        for family in many_families():
            if family:
                for p in FIELDS:
                    self.assertEqual(self.check(counts_of(family), holes_of(family, p)), "fits")

    def test_certificates_with_a_change(self):
        for counts, holes in (
            ((4, 5, 1), (0, 1, 0)), ((4, 5, 1), (0, 0, 0)), ((2, 1), (1, 1)), ((4, 4, 3), (0, 0, 2)), ((1,), (0,)),
            ((3,), (2,)), ((1,), (2,)), ((1, 1), (0, 0)), ((3, 3), (0, 1)), ((1, 1, 1), (3, 0, 5)), ((2, 1), (0, 0)),
        ):
            things = [(word, k) for word in ("fits", "sum", "below", "size", "Size", "") for k in range(-4, 5)]
            things.extend([("fits",), ("fits", ()), ("sum", True), ("below", True), ("size", True), "sum", ["sum", 0]])
            things.extend(NO_WHOLES + PARTS)
            for right in plain_certificates(counts, holes):
                things.extend(spoiled(right))
            for thing in things:
                right = is_plain_certificate(counts, holes, thing)
                self.assertIs(rows_hold(counts, holes, thing), right, (counts, holes, thing))

    def test_sizes_ask_for_rests_that_are_not_below_0(self):
        self.assertEqual(plain_rests((2, 2, 1), (0, 0, 3)), (-2, 4, -2, 0))
        for k in (1, 2):
            self.assertIs(rows_hold((2, 2, 1), (0, 0, 3), ("size", k)), False)
        for k, right in ((0, True), (1, False), (2, True), (3, False)):
            self.assertIs(rows_hold((2, 2, 1), (0, 0, 3), ("below", k)), right)
        self.assertIs(rows_hold((2, 2, 1), (0, 0, 3), ("sum", -2)), True)


class NearCones(unittest.TestCase, Raises):

    def check(self, counts, holes):
        family = near_cone(counts, holes)
        self.assertTrue(is_plain_family(family))
        self.assertEqual(family, plain_facets(plain_near_cone(counts, holes)), (counts, holes))
        self.assertEqual(near_cone(holes=holes, counts=counts), family)
        self.assertEqual(counts_of(family), counts)
        for p in FIELDS:
            self.assertEqual(holes_of(family, p), holes)
        lids = tuple(sorted(tuple(sorted(lid)) for lid in plain_lids(counts, holes)))
        self.assertEqual(repr(lids_of(counts, holes)), repr(lids))
        self.assertEqual(lids_of(holes=holes, counts=counts), lids)
        faces = plain_faces(family)
        lone = {face for face in faces if face and 0 not in face and face | {0} not in faces}
        self.assertEqual({frozenset(lid) for lid in lids}, lone)

    def test_rows_of_families(self):
        rows = {(counts_of(family), holes_of(family, 2)) for family in many_families() if family}
        self.assertGreater(len(rows), 60)
        for counts, holes in sorted(rows):
            self.check(counts, holes)

    def test_all_small_rows(self):
        many = 0
        for length in range(1, 4):
            for counts in product(range(1, 8), repeat=length):
                for holes in product(range(4), repeat=length):
                    if plain_certificates(counts, holes)[0][0] == "fits":
                        self.check(counts, holes)
                        many += 1
                    else:
                        for call in (near_cone, lids_of):
                            error = error_of(call, counts, holes)
                            self.assertIs(type(error), NotFit)
                            self.assertTrue(is_plain_certificate(counts, holes, error.certificate))
                            self.assertIs(rows_hold(counts, holes, error.certificate), True)
        self.assertGreater(many, 100)

    def test_edges(self):
        self.assertEqual([near_cone((1,), (0,)), lids_of((1,), (0,))], [((0,),), ()])
        lone = tuple((point,) for point in range(9))
        self.assertEqual([near_cone((9,), (8,)), lids_of((9,), (8,))], [lone, lone[1:]])
        self.assertEqual(near_cone((9, 36, 84, 126, 126, 84, 36, 9, 1), (0,) * 9), (tuple(range(9)),))
        self.assertEqual(lids_of((4, 6, 4), (0, 0, 1)), ((1, 2, 3),))
        self.assertEqual(lids_of((9, 36, 84, 126), (0, 0, 0, 70))[0], (1, 2, 3, 4))
        self.assertEqual(lids_of((5, 3, 1), (2, 0, 0)), ((3,), (4,)))
        self.assertEqual(lids_of((6, 6), (1, 2)), ((1, 2), (1, 3), (5,)))

    def test_too_many_points_come_behind_what_does_not_fit(self):
        for counts, holes in (((10,), (9,)), ((GREAT,), (GREAT - 1,)), ((10, 9), (0, 0)), ((11, 10), (1, 1))):
            for call in (near_cone, lids_of):
                self.assert_raises_with(TooGreat, "points", counts[0], call, counts, holes)
        for counts, holes in (((10,), (8,)), ((GREAT,), (GREAT,)), ((10, 9), (1, 0))):
            for call in (near_cone, lids_of):
                self.assertIs(type(error_of(call, counts, holes)), NotFit)


class WrongInputs(unittest.TestCase, Raises):

    def test_counts(self):
        wrong = NO_INTEGERS + PARTS + ((), (1,) * 17, (1, 0), (4, True), [4, 5]) + tuple(spoiled((4, 5, 1)))
        for thing in wrong:
            if not is_plain_counts(thing) or thing == ():
                for holes in ((), (0,), (0, 1, 0), None, [0]):
                    for call in (rests_of, judge_rows, near_cone, lids_of):
                        self.assert_bad(BadCounts, thing, call, thing, holes)
                    self.assert_bad(BadCounts, thing, rows_hold, thing, holes, ("sum", 0))
                self.assert_bad(BadCounts, thing, near_cone, holes=None, counts=thing)

    def test_holes(self):
        for counts in ((1,), (4, 5, 1), (GREAT,) * 16):
            wrong = NO_INTEGERS + PARTS + ((0,) * (len(counts) + 1), (0,) * (len(counts) - 1), [0] * len(counts))
            wrong += tuple(spoiled((0,) * len(counts)))
            for thing in wrong:
                if not is_plain_holes(counts, thing):
                    for call in (rests_of, judge_rows, near_cone, lids_of):
                        self.assert_bad(BadHoles, thing, call, counts, thing)
                        self.assert_bad(BadHoles, thing, call, holes=thing, counts=counts)
                    self.assert_bad(BadHoles, thing, rows_hold, counts, thing, ("sum", 0))


if __name__ == "__main__":
    unittest.main()
