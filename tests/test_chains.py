"""Promises [4.1] and [4.3], and holerows/chains.py."""

import random
import unittest
from itertools import combinations

from holerows.chains import cycle_holds, is_chain, is_cycle, judge_cycle, rim_of
from holerows.errors import BadChain, BadFamily, BadField, BadSize
from plain import (
    FIELDS, FOLDED, NO_INTEGERS, NO_SIZES, NO_WHOLES, OVER_3_ALONE, PARTS, Raises, face_tuples, is_plain_chain,
    is_plain_number, many_families, plain_chain, plain_product, plain_rank, plain_rim, plain_rims, plain_sum,
    plain_times, points_number, some_families, spoiled, wrong_families,
)

RING = ((0, 1), (0, 2), (1, 2))
AROUND = (((0, 1), 1), ((0, 2), -1), ((1, 2), 1))
EIGHT_LONE = tuple((point,) for point in range(8))
EIGHT_IN_ONE = (tuple(range(8)),)
SIX_TRIPLES = tuple(combinations(range(6), 3))
FAMILIES = [family for family in many_families() if points_number(family) < 9] + [FOLDED, OVER_3_ALONE]
FEW = [family for family in some_families() if points_number(family) < 9]
FEW.extend([FOLDED, OVER_3_ALONE, SIX_TRIPLES, EIGHT_LONE, EIGHT_IN_ONE])
WRONG_FIELDS = NO_INTEGERS + (1, 4, 6, 8, 9, 11, -1, -2, 10 ** 39, 2.0)


def greatest(family):
    return max(map(len, family), default=0)


def some_number(chance, p):
    return chance.randrange(1, p) if p else chance.choice([1, -1, 2, -3, 10, 10 ** 12 - 1, -(10 ** 11) - 7])


def some_chain(chance, faces, p, size):
    """A chain that a seeded chance picks."""
    places = sorted(face for face in faces if len(face) == size)
    picked = chance.sample(places, chance.randint(1, len(places)))
    return tuple(sorted((face, some_number(chance, p)) for face in picked))


def some_cycles(chance, family, p):
    """Cycles of all sizes: sums of rims of faces, and of rims of what is no face but has a rim of faces."""
    faces = face_tuples(family)
    points = range(points_number(family))
    for size in range(1, greatest(family) + 1):
        hulls = [hull for hull in combinations(points, size + 1)
                 if all(hull[:at] + hull[at + 1:] in faces for at in range(size + 1))]
        for many in (1, 2, 4, 9):
            picked = chance.sample(hulls, min(many, len(hulls)))
            cycle = plain_sum(p, *[plain_times(p, some_number(chance, p), plain_rim(p, ((hull, 1),))) for hull in picked])
            if cycle:
                yield size, cycle


def is_plain_certificate(family, p, cycle, thing):
    """Whether a value is a certificate, as the document words it."""
    faces = face_tuples(family)
    size = len(cycle[0][0])
    if type(thing) is not tuple or not thing or type(thing[0]) is not str:
        return False
    if thing[0] == "fills" and len(thing) == 3:
        if not is_plain_number(p, thing[1]) or not is_plain_chain(faces, p, size + 1, thing[2]):
            return False
        return plain_rim(p, thing[2]) == plain_times(p, thing[1], cycle)
    if thing[0] == "cut" and len(thing) == 2:
        if not is_plain_chain(faces, p, size, thing[1]) or not plain_product(p, cycle, thing[1]):
            return False
        return all(plain_product(p, rim, thing[1]) == 0 for rim in plain_rims(faces, p, size + 1))
    return False


class Chains(unittest.TestCase, Raises):

    def test_chains_by_chance(self):
        chance = random.Random(41)
        for family in FEW:
            faces = face_tuples(family)
            for p in FIELDS:
                for size in range(1, greatest(family) + 1):
                    chain = some_chain(chance, faces, p, size)
                    self.assertIs(is_chain(family, p, size, chain), True)
                    self.assertIs(is_chain(thing=chain, size=size, p=p, family=family), True)
                    self.assertIs(is_chain(family, p, size + 1, chain), False)
                    self.assertIs(is_chain(family, p, 10 ** 39, chain), False)
                    self.assertIs(is_chain(family, p, size, chain + chain[-1:]), False)
                    self.assertIs(is_chain(family, p, size, list(chain)), False)
                    if len(chain) > 1:
                        self.assertIs(is_chain(family, p, size, chain[::-1]), False)

    def test_nothing_is_a_chain_of_each_size(self):
        for family in FEW:
            for p in FIELDS:
                for size in (1, 2, 3, 9, 10, 16, 10 ** 30):
                    self.assertIs(is_chain(family, p, size, ()), True)
                self.assertEqual(rim_of(family, p, ()), ())
                self.assertIs(is_cycle(family, p, ()), True)

    def test_numbers_of_each_field(self):
        for p in FIELDS:
            for number in list(range(-9, 10)) + [10 ** 12 - 1, -(10 ** 12) + 1, True, False, None, "1", (1,)]:
                chain = (((0, 1), number),)
                self.assertIs(is_chain(RING, p, 2, chain), is_plain_number(p, number))

    def test_all_kinds_of_values(self):
        for family in ((), RING, ((0, 1, 2), (2, 3))):
            faces = face_tuples(family)
            for p in (0, 2, 3):
                things = list(NO_WHOLES + PARTS)
                for base in ((((0, 1), 1),), (((0,), 1), ((2,), 1)), (((0, 1), 1), ((0, 2), 2)), (((), 1),)):
                    things.extend(spoiled(base))
                for thing in things:
                    for size in (1, 2):
                        right = is_plain_chain(faces, p, size, thing)
                        self.assertIs(is_chain(family, p, size, thing), right, (family, p, size, thing))


class Rims(unittest.TestCase, Raises):

    def test_against_plain_sums(self):
        chance = random.Random(42)
        for family in FAMILIES:
            faces = face_tuples(family)
            for p in FIELDS:
                for size in range(1, greatest(family) + 1):
                    chain = some_chain(chance, faces, p, size)
                    rim = rim_of(family, p, chain)
                    self.assertEqual(repr(rim), repr(plain_rim(p, chain)), (family, p, chain))
                    self.assertEqual(rim_of(chain=chain, p=p, family=family), rim)
                    self.assertIs(is_cycle(family, p, chain), rim == ())
                    self.assertIs(is_cycle(chain=chain, p=p, family=family), rim == ())
                    if size > 1:
                        self.assertEqual(rim_of(family, p, rim), ())
                        self.assertIs(is_cycle(family, p, rim), True)

    def test_rims_of_the_size_0(self):
        for p in FIELDS:
            self.assertEqual(rim_of(RING, p, (((1,), 1),)), (((), 1),))
            self.assertEqual(rim_of(RING, p, (((0,), 1), ((1,), 1), ((2,), 1))), {
                0: (((), 3),), 2: (((), 1),), 3: (), 5: (((), 3),), 7: (((), 3),)}[p])
        self.assertEqual(rim_of(RING, 0, (((0,), 5), ((2,), -5))), ())
        self.assertEqual(rim_of(RING, 0, (((0,), 5), ((2,), -7))), (((), -2),))
        self.assertIs(is_cycle(RING, 0, (((0,), 5), ((2,), -5))), True)
        self.assertIs(is_cycle(RING, 7, (((0,), 5), ((2,), 2))), True)
        self.assertIs(is_cycle(RING, 5, (((0,), 4), ((2,), 2))), False)

    def test_a_chain_of_the_size_0_is_none(self):
        for p in FIELDS:
            for chain in ((((), 1),), (((), 1), ((0,), 1)), (((0,), 1), ((0, 1), 1))):
                for call in (rim_of, is_cycle, judge_cycle):
                    self.assert_bad(BadChain, chain, call, RING, p, chain)
                self.assert_bad(BadChain, chain, cycle_holds, RING, p, chain, None)
                self.assertIs(is_chain(RING, p, 1, chain), False)

    def test_signs(self):
        self.assertEqual(rim_of(((0, 1, 2, 3),), 0, (((0, 1, 2, 3), 1),)),
                         (((0, 1, 2), -1), ((0, 1, 3), 1), ((0, 2, 3), -1), ((1, 2, 3), 1)))
        self.assertEqual(rim_of(((0, 1, 2, 3),), 3, (((0, 1, 2, 3), 1),)),
                         (((0, 1, 2), 2), ((0, 1, 3), 1), ((0, 2, 3), 2), ((1, 2, 3), 1)))


class Certificates(unittest.TestCase, Raises):

    def check(self, family, p, cycle):
        """One right kind only, found by a rank; returns the kind."""
        told = judge_cycle(family, p, cycle)
        self.assertTrue(is_plain_certificate(family, p, cycle, told), (family, p, cycle, told))
        self.assertEqual(repr(judge_cycle(chain=cycle, p=p, family=family)), repr(told))
        self.assertIs(cycle_holds(family, p, cycle, told), True)
        self.assertIs(cycle_holds(thing=told, chain=cycle, p=p, family=family), True)
        rims = plain_rims(face_tuples(family), p, len(cycle[0][0]) + 1)
        is_filled = plain_rank(rims + [cycle], p) == plain_rank(rims, p)
        self.assertEqual(told[0], "fills" if is_filled else "cut")
        return told[0]

    def test_cycles_by_chance(self):
        chance = random.Random(43)
        kinds = {}
        for family in FEW:
            for p in FIELDS:
                for size, cycle in some_cycles(chance, family, p):
                    kind = self.check(family, p, cycle)
                    kinds[kind, size] = kinds.get((kind, size), 0) + 1
        for size in (1, 2, 3):
            for kind in ("fills", "cut"):
                self.assertGreater(kinds[kind, size], 3, kinds)

    def test_the_folded_plane(self):
        """A walk around it twice is filled; around it once it is filled over all fields but 2."""
        cycle = {p: plain_rim(p, (((0, 1, 2), 1),)) for p in FIELDS}
        self.assertNotIn((0, 1, 2), FOLDED)
        self.assertEqual([self.check(FOLDED, p, cycle[p]) for p in FIELDS], ["fills", "cut", "fills", "fills", "fills"])
        self.assertEqual(judge_cycle(FOLDED, 0, cycle[0])[1] % 2, 0)
        twice = plain_times(0, 2, cycle[0])
        self.check(FOLDED, 0, twice)

    def test_a_hole_over_3_alone(self):
        kinds = set()
        for triple in combinations(range(8), 3):
            if triple not in OVER_3_ALONE:
                kinds.add(tuple(self.check(OVER_3_ALONE, p, plain_rim(p, ((triple, 1),))) for p in FIELDS))
        self.assertIn(("fills", "fills", "cut", "fills", "fills"), kinds)

    def test_numbers_of_twelve_digits(self):
        for family in (RING, ((0, 1, 2),), FOLDED):
            for by in (10 ** 12 - 1, -(10 ** 12) + 1, 999999999989):
                self.check(family, 0, plain_times(0, by, plain_rim(0, (((0, 1, 2), 1),))))
        self.check(((0,), (1,), (2,)), 0, (((0,), 10 ** 12 - 1), ((1,), -(10 ** 12) + 2), ((2,), -1)))
        self.check(((0, 1), (1, 2)), 0, (((0,), 10 ** 12 - 1), ((1,), -(10 ** 12) + 2), ((2,), -1)))

    def test_other_certificates_that_are_right(self):
        """Multiples, and fillings and cuts to which other cycles and cuts are added."""
        chance = random.Random(44)
        many = 0
        for family in FEW:
            faces = face_tuples(family)
            for p in FIELDS:
                for size, cycle in some_cycles(chance, family, p):
                    told = judge_cycle(family, p, cycle)
                    by = some_number(chance, p)
                    if told[0] == "fills":
                        more = [other for at, other in some_cycles(chance, family, p) if at == size + 1]
                        chain = plain_sum(p, plain_times(p, by, told[2]), *more[:1])
                        thing = ("fills", by * told[1] % p if p else by * told[1], chain)
                    else:
                        place = chance.choice([face for face in faces if len(face) == size - 1])
                        around = plain_chain(p, {
                            face: dict(plain_rim(p, ((face, 1),))).get(place, 0) for face in faces if len(face) == size})
                        thing = ("cut", plain_sum(p, plain_times(p, by, told[1]), around))
                    self.assertIs(cycle_holds(family, p, cycle, thing), True, (family, p, cycle, thing))
                    self.assertTrue(is_plain_certificate(family, p, cycle, thing))
                    many += 1
        self.assertGreater(many, 200)

    def test_certificates_with_a_change(self):
        tetra = tuple(combinations(range(4), 3))
        for family, p, cycle in (
            (RING, 0, AROUND), (RING, 2, plain_rim(2, (((0, 1, 2), 1),))), (((0, 1, 2),), 3, plain_rim(3, (((0, 1, 2), 1),))),
            (tetra, 0, AROUND), (((0,), (1,)), 5, (((0,), 2), ((1,), 3))), (((0, 1),), 0, (((0,), 4), ((1,), -4))),
            (tetra, 0, plain_rim(0, (((0, 1, 2, 3), 1),))),
        ):
            told = judge_cycle(family, p, cycle)
            things = list(spoiled(told)) + list(NO_WHOLES + PARTS)
            things.extend([("fills",), ("cut",), ("fills", 1), ("fills", 1, ()), ("cut", ()), ("cut", cycle, cycle)])
            things.extend([("cut", cycle), ("fills", 1, cycle), ("fill", 1, told[-1]), ("Cut", told[-1])])
            for thing in things:
                right = is_plain_certificate(family, p, cycle, thing)
                self.assertIs(cycle_holds(family, p, cycle, thing), right, (family, p, cycle, thing))

    def test_fillings_for_another_number(self):
        cycle = (((0,), 1), ((1,), -1))
        for by, right in ((-1, True), (1, False), (2, False), (0, False), (True, False), (-2, False)):
            self.assertIs(cycle_holds(((0, 1),), 0, cycle, ("fills", by, (((0, 1), 1),))), right)
        self.assertIs(cycle_holds(((0, 1),), 0, cycle, ("fills", -3, (((0, 1), 3),))), True)
        self.assertIs(cycle_holds(((0, 1),), 5, (((0,), 1), ((1,), 4)), ("fills", 4, (((0, 1), 1),))), True)
        self.assertIs(cycle_holds(((0, 1),), 5, (((0,), 1), ((1,), 4)), ("fills", -1, (((0, 1), 1),))), False)


class WrongInputs(unittest.TestCase, Raises):

    def test_families(self):
        for wrong in wrong_families():
            for p in (0, 2, 1, True, None):
                self.assert_bad(BadFamily, wrong, is_chain, wrong, p, 0, ())
                self.assert_bad(BadFamily, wrong, cycle_holds, wrong, p, (), None)
                for call in (rim_of, is_cycle, judge_cycle):
                    self.assert_bad(BadFamily, wrong, call, wrong, p, ())
            self.assert_bad(BadFamily, wrong, judge_cycle, chain=None, p=None, family=wrong)

    def test_fields(self):
        for family in ((), RING):
            for wrong in WRONG_FIELDS:
                for size in (1, 0, None):
                    self.assert_bad(BadField, wrong, is_chain, family, wrong, size, ())
                for chain in ((), AROUND, None, [1]):
                    for call in (rim_of, is_cycle, judge_cycle):
                        self.assert_bad(BadField, wrong, call, family, wrong, chain)
                    self.assert_bad(BadField, wrong, cycle_holds, family, wrong, chain, ("cut", ()))
        self.assert_bad(BadField, False, rim_of, RING, False, ())
        self.assert_bad(BadField, 4, is_chain, thing=(), size=1, p=4, family=RING)

    def test_sizes(self):
        for family in ((), RING):
            for wrong in NO_SIZES:
                for p in FIELDS:
                    self.assert_bad(BadSize, wrong, is_chain, family, p, wrong, ())

    def test_chains(self):
        for p in (0, 3):
            faces = face_tuples(RING)
            wrong = list(NO_WHOLES + PARTS) + [(((0, 1, 2), 1),), (((0, 3), 1),), (((0,), 1), ((0, 1), 1))]
            wrong.extend(spoiled((((0, 1), 1), ((1, 2), 2))))
            for thing in wrong:
                right = any(is_plain_chain(faces, p, size, thing) for size in (1, 2, 3))
                for call in (rim_of, is_cycle):
                    if right:
                        self.assertEqual(rim_of(RING, p, thing), plain_rim(p, thing))
                    else:
                        self.assert_bad(BadChain, thing, call, RING, p, thing)
                if not right or plain_rim(p, thing) or not thing:
                    self.assert_bad(BadChain, thing, judge_cycle, RING, p, thing)
                    self.assert_bad(BadChain, thing, cycle_holds, RING, p, thing, ("cut", (((0, 1), 1),)))

    def test_no_cycles(self):
        for p in FIELDS:
            for chain in ((), (((0,), 1),), (((0, 1), 1),), (((0,), 1), ((1,), 1), ((2,), 2))):
                self.assert_bad(BadChain, chain, judge_cycle, RING, p, chain)
                self.assert_bad(BadChain, chain, cycle_holds, RING, p, chain, ("cut", ()))
            self.assert_bad(BadChain, (), judge_cycle, (), p, ())


if __name__ == "__main__":
    unittest.main()
