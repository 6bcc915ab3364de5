"""Promises [4.2] and [4.4], and holerows/holes.py."""

import random
import unittest
from itertools import combinations

from holerows.builds import cone_of, hung_of, mirror_of
from holerows.errors import BadFamily, BadField, BadSize
from holerows.families import euler_of, parts_of
from holerows.holes import hole_pairs, holes_of, pairs_hold
from plain import (
    FIELDS, FOLDED, NO_INTEGERS, NO_SIZES, NO_WHOLES, OVER_3_ALONE, PARTS, Raises, face_tuples, is_plain_chain,
    many_families, plain_chain, plain_holes, plain_product, plain_rim, plain_rims, plain_sum, plain_times,
    points_number, some_families, some_family, spoiled, wrong_families,
)

RING = ((0, 1), (0, 2), (1, 2))
EIGHT_LONE = tuple((point,) for point in range(8))
EIGHT_IN_ONE = (tuple(range(8)),)
# Seven points, all pairs of them, and a ring of triples: a torus.
TORUS = tuple(sorted(tuple(sorted((k + step) % 7 for k in part)) for step in range(7) for part in ((0, 1, 3), (0, 2, 3))))
FAMILIES = many_families() + [FOLDED, OVER_3_ALONE, TORUS]
FEW = [family for family in some_families() if points_number(family) < 9]
FEW.extend([FOLDED, OVER_3_ALONE, TORUS, EIGHT_LONE, EIGHT_IN_ONE])
WRONG_FIELDS = NO_INTEGERS + (1, 4, 6, 8, 9, 11, -1, -2, 10 ** 39)


def around(p, faces, place):
    """The cut of the faces that have a place, one point smaller, in their rims."""
    near = [face for face in faces if len(face) == len(place) + 1 and set(place) <= set(face)]
    return plain_chain(p, {face: dict(plain_rim(p, ((face, 1),))).get(place, 0) for face in near})


def is_plain_show(family, p, size, thing):
    """Whether a value shows all holes, as the document words it."""
    faces = face_tuples(family)
    holes = plain_holes(family, p)
    many = holes[size - 1] if size <= len(holes) else 0
    if type(thing) is not tuple or len(thing) != 2 or not all(type(part) is tuple for part in thing):
        return False
    cycles, cuts = thing
    if len(cycles) != many or len(cuts) != many:
        return False
    if not all(is_plain_chain(faces, p, size, chain) for chain in cycles + cuts):
        return False
    if any(plain_rim(p, cycle) for cycle in cycles):
        return False
    rims = plain_rims(faces, p, size + 1)
    if any(plain_product(p, rim, cut) for rim in rims for cut in cuts):
        return False
    return all((plain_product(p, cycle, cut) != 0) == (i == j)
               for i, cycle in enumerate(cycles) for j, cut in enumerate(cuts))


class Holes(unittest.TestCase):

    def test_against_plain_ranks(self):
        for family in FAMILIES:
            for p in FIELDS:
                told = holes_of(family, p)
                self.assertEqual(told, plain_holes(family, p), (family, p))
                self.assertEqual(holes_of(p=p, family=family), told)

    def test_parts_and_euler_sums(self):
        for family in FAMILIES:
            if family:
                for p in FIELDS:
                    holes = holes_of(family, p)
                    self.assertEqual(len(holes), max(map(len, family)))
                    self.assertEqual(holes[0], len(parts_of(family)) - 1)
                    self.assertEqual(sum(holes[::2]) - sum(holes[1::2]), euler_of(family))

    def test_known_families(self):
        for p in FIELDS:
            self.assertEqual(holes_of((), p), ())
            self.assertEqual(holes_of(((0,),), p), (0,))
            self.assertEqual(holes_of(EIGHT_LONE, p), (7,))
            self.assertEqual(holes_of(EIGHT_IN_ONE, p), (0,) * 8)
            self.assertEqual(holes_of(((0, 1, 2), (3,)), p), (1, 0, 0))
            self.assertEqual(holes_of(TORUS, p), (0, 2, 1))
            self.assertEqual(holes_of(FOLDED, p), (0, 1, 1) if p == 2 else (0, 0, 0))
            self.assertEqual(holes_of(OVER_3_ALONE, p), (0, 1, 1) if p == 3 else (0, 0, 0))
            for n in range(2, 10):
                self.assertEqual(holes_of(tuple(combinations(range(n), n - 1)), p), (0,) * (n - 2) + (1,))

    def test_cones_and_hung_families(self):
        for family in FEW:
            if points_number(family) < 7:
                for p in FIELDS:
                    self.assertEqual(set(holes_of(cone_of(family), p)), {0})
                    holes = (1,) if family == () else (0,) + holes_of(family, p)
                    self.assertEqual(holes_of(hung_of(family), p), holes)

    def test_mirrors(self):
        for family in FAMILIES:
            if len(family) > 1:
                n = points_number(family)
                _, inner = mirror_of(family)
                for p in FIELDS:
                    holes = dict(enumerate(holes_of(family, p)))
                    mirrored = dict(enumerate(holes_of(inner, p))) if inner else {-1: 1}
                    for k in range(-1, n):
                        self.assertEqual(mirrored.get(k, 0), holes.get(n - k - 3, 0), (family, p, k))

    def test_families_by_chance(self):
        chance = random.Random(42)
        for _ in range(60):
            family = some_family(chance, chance.randint(6, 8), chance.randint(8, 25), 3)
            for p in FIELDS:
                self.assertEqual(holes_of(family, p), plain_holes(family, p), (family, p))


class Pairs(unittest.TestCase):

    def check(self, family, p, size):
        told = hole_pairs(family, p, size)
        self.assertTrue(is_plain_show(family, p, size, told), (family, p, size, told))
        self.assertIs(pairs_hold(family, p, size, told), True)
        self.assertEqual(repr(hole_pairs(size=size, p=p, family=family)), repr(told))
        self.assertIs(pairs_hold(thing=told, size=size, p=p, family=family), True)
        return told

    def test_all_sizes(self):
        for family in FEW:
            for p in FIELDS:
                for size in range(1, max(map(len, family), default=0) + 3):
                    self.check(family, p, size)

    def test_sizes_beyond_the_greatest_one(self):
        for family in ((), ((0,),), RING, FOLDED):
            for size in (4, 5, 9, 10, 16, 10 ** 30):
                self.assertEqual(hole_pairs(family, 2, size), ((), ()))
                self.assertIs(pairs_hold(family, 2, size, ((), ())), True)
                self.assertIs(pairs_hold(family, 2, size, (((),), ((),))), False)

    def test_no_points(self):
        for p in FIELDS:
            self.assertEqual(hole_pairs((), p, 1), ((), ()))
            self.assertIs(pairs_hold((), p, 1, ((), ())), True)

    def test_other_pairs_that_are_right(self):
        """In another order, multiples, with rims added to cycles and cuts without a sum to cuts."""
        chance = random.Random(44)
        many = 0
        for family in FEW:
            faces = face_tuples(family)
            for p in FIELDS:
                for size in range(1, max(map(len, family), default=0) + 1):
                    cycles, cuts = hole_pairs(family, p, size)
                    order = chance.sample(range(len(cycles)), len(cycles))
                    rims = plain_rims(faces, p, size + 1)
                    places = [face for face in sorted(faces) if len(face) == size - 1]
                    by = chance.randrange(1, p) if p else chance.choice([-2, 3, 10 ** 11])
                    other = tuple(plain_sum(p, plain_times(p, by, cycles[at]), *rims[at:at + 2]) for at in order)
                    against = tuple(
                        plain_sum(p, plain_times(p, by, cuts[at]), around(p, faces, places[at % len(places)]))
                        for at in order)
                    thing = (other, against)
                    self.assertTrue(is_plain_show(family, p, size, thing), (family, p, size, thing))
                    self.assertIs(pairs_hold(family, p, size, thing), True)
                    many += len(order)
        self.assertGreater(many, 200)

    def test_pairs_with_a_change(self):
        squares = ((0, 1), (0, 3), (1, 2), (2, 3), (3, 4), (2, 4), (0, 4))
        for family, p, size in (
            (((0,), (1,), (2,)), 2, 1), (((0,), (1,), (2,)), 0, 1), (RING, 3, 2), (RING, 0, 1), (tuple(sorted(squares)), 5, 2),
            (((0, 1, 2), (0, 3), (1, 3)), 2, 2), (((0, 1, 2), (0, 3), (1, 3)), 0, 2), ((), 2, 1),
        ):
            told = hole_pairs(family, p, size)
            cycles, cuts = told
            things = [(cuts, cycles), (cycles, cuts[::-1]), (cycles, cycles), (cuts, cuts), (cycles[:-1], cuts[:-1])]
            things.extend([(cycles + cycles, cuts + cuts), (cycles, cuts, ()), (cycles,), (), list(told), None])
            things.extend([(cycles + ((),), cuts + ((),)), (((),) * len(cycles), ((),) * len(cuts))])
            things.extend(spoiled(told))
            for thing in things:
                right = is_plain_show(family, p, size, thing)
                self.assertIs(pairs_hold(family, p, size, thing), right, (family, p, size, thing))

    def test_a_cycle_that_meets_two_cuts_is_wrong(self):
        family = ((0,), (1,), (2,))
        cycles = ((((0,), 1), ((1,), -1)), (((0,), 1), ((2,), -1)))
        self.assertIs(pairs_hold(family, 0, 1, (cycles, ((((1,), 1),), (((2,), 1),)))), True)
        self.assertIs(pairs_hold(family, 0, 1, (cycles, ((((2,), 1),), (((1,), 1),)))), False)
        self.assertIs(pairs_hold(family, 0, 1, (cycles, ((((0,), 1),), (((2,), 1),)))), False)
        self.assertIs(pairs_hold(family, 0, 1, (cycles[:1], ((((1,), 1),),))), False)

    def test_a_cut_that_meets_a_rim_is_wrong(self):
        family = ((0, 1, 2), (0, 3), (1, 3))
        cycle = (((0, 1), 1), ((0, 3), -1), ((1, 3), 1))
        for place, right in (((0, 3), True), ((1, 3), True), ((0, 1), False), ((0, 2), False)):
            self.assertIs(pairs_hold(family, 0, 2, ((cycle,), (((place, 1),),))), right)

    def test_what_depends_on_the_field(self):
        for p in FIELDS:
            many = 1 if p == 2 else 0
            for size in (2, 3):
                self.assertEqual([len(part) for part in self.check(FOLDED, p, size)], [many, many])
                alone = self.check(OVER_3_ALONE, p, size)
                self.assertEqual([len(part) for part in alone], [1, 1] if p == 3 else [0, 0])


class WrongInputs(unittest.TestCase, Raises):

    def test_families(self):
        for wrong in wrong_families():
            for p in (0, 2, 4, True, None):
                self.assert_bad(BadFamily, wrong, holes_of, wrong, p)
                self.assert_bad(BadFamily, wrong, hole_pairs, wrong, p, 0)
                self.assert_bad(BadFamily, wrong, pairs_hold, wrong, p, 0, None)
            self.assert_bad(BadFamily, wrong, pairs_hold, thing=(), size=1, p=None, family=wrong)

    def test_fields(self):
        for family in ((), RING):
            for wrong in WRONG_FIELDS:
                self.assert_bad(BadField, wrong, holes_of, family, wrong)
                self.assert_bad(BadField, wrong, holes_of, p=wrong, family=family)
                for size in (1, 0, None, [2]):
                    self.assert_bad(BadField, wrong, hole_pairs, family, wrong, size)
                    self.assert_bad(BadField, wrong, pairs_hold, family, wrong, size, ((), ()))

    def test_sizes(self):
        for family in ((), RING):
            for p in FIELDS:
                for wrong in NO_SIZES:
                    self.assert_bad(BadSize, wrong, hole_pairs, family, p, wrong)
                    self.assert_bad(BadSize, wrong, pairs_hold, family, p, wrong, ((), ()))

    def test_all_kinds_of_values_as_pairs(self):
        for family, size in (((), 1), (RING, 1), (RING, 2), (RING, 3)):
            for thing in NO_WHOLES + PARTS + (((), ()), [(), ()], ((), []), ([], ()), ((), (), ()), {(): ()}, ((),)):
                right = is_plain_show(family, 2, size, thing)
                self.assertIs(pairs_hold(family, 2, size, thing), right, (family, size, thing))


if __name__ == "__main__":
    unittest.main()
