"""Promise [10.5], and holerows/flips.py."""

import random
import unittest
from functools import lru_cache
from itertools import combinations

from holerows.builds import hung_of, join_of, renamed
from holerows.errors import BadFamily, NoFlip, NotSphere, TooGreat
from holerows.families import counts_of
from holerows.flips import flipped, flips_of
from holerows.spheres import first_sphere, is_round, most_sphere, round_holds
from plain import (
    FOLDED, NO_INTEGERS, OVER_2_TWICE, OVER_3_TWICE, PARTS, Raises, all_sets, error_of, families_of, is_plain_family, many_families,
    plain_bad_faces, plain_faces, plain_flipped, plain_g, points_number, spoiled, wrong_families,
)

RING = ((0, 1), (0, 2), (1, 2))


def plain_flips(family):
    """All flips, by a plain look at all pairs of sets."""
    faces = plain_faces(family)
    d = len(family[0])
    n = points_number(family)
    found = [(facet, (n,)) for facet in family]
    sets = [part for part in all_sets(range(n)) if part not in faces]
    for one in faces:
        around = {other for other in faces if not other & one and other | one in faces}
        for other in sets:
            if one and len(one) + len(other) == d + 1 and not one & other:
                if around == set(all_sets(other)) - {other}:
                    found.append((tuple(sorted(one)), tuple(sorted(other))))
    return tuple(sorted(found))


def due_g(g, face, other):
    """The row g that is due: one step greater or less at the size of the smaller set."""
    g = list(g)
    if len(other) < len(face):
        g[len(other)] += 1
    if len(face) < len(other):
        g[len(face)] -= 1
    return tuple(g)


@lru_cache(maxsize=None)
def walks():
    """Families that come by flips that a seeded chance picks, each with its flips."""
    chance = random.Random(1978)
    met = []
    for d, steps in ((2, 12), (3, 20), (4, 24), (5, 10), (6, 4)):
        family = tuple(combinations(range(d + 1), d))
        for _ in range(steps):
            flips = flips_of(family)
            met.append((family, flips))
            flips = [flip for flip in flips if flip[1] != (8,)]
            # New points come so often by chance that families would have eight of them at once.
            fewer = [flip for flip in flips if len(flip[1]) > 1]
            family = flipped(family, *chance.choice(fewer if fewer and chance.random() < 0.6 else flips))
    return met


class Flips(unittest.TestCase):

    def test_all_flips_by_a_plain_look(self):
        kinds = set()
        for family, flips in walks():
            self.assertEqual(flips, plain_flips(family), family)
            kinds.update((len(face), len(other)) for face, other in flips)
        self.assertLess({(1, 2), (2, 1), (1, 3), (2, 2), (3, 1), (1, 4), (2, 3), (3, 2), (4, 1), (3, 3), (2, 4)}, kinds)

    def test_what_comes(self):
        for family, flips in walks():
            for face, other in flips[::1 + len(flips) // 4]:
                if other == (8,):
                    continue
                told = flipped(family, face, other)
                self.assertTrue(is_plain_family(told))
                self.assertEqual(told, plain_flipped(family, face, other))
                self.assertEqual(plain_g(counts_of(told)), due_g(plain_g(counts_of(family)), face, other))
                self.assertIs(is_round(told, 2), True)

    def test_what_comes_is_round_over_other_fields(self):
        for at, (family, _) in enumerate(walks()):
            if at % 3 == 0 and points_number(family) < 8:
                for p in (0, 2, 3):
                    self.assertEqual(plain_bad_faces(family, p), ())

    def test_the_way_back(self):
        for family, flips in walks():
            for face, other in flips[::1 + len(flips) // 4]:
                if other == (8,):
                    continue
                told = flipped(family, face, other)
                n = points_number(family)
                if len(face) > 1:
                    self.assertEqual(flipped(told, other, face), family)
                else:
                    # The points above the one that went are called by 1 less, and it comes again as the last one.
                    gone = face[0]
                    moved = tuple(point - (point > gone) for point in other)
                    names = tuple(n - 1 if point == gone else point - (point > gone) for point in range(n))
                    self.assertEqual(flipped(told, moved, (n - 1,)), renamed(family, names))

    def test_edges(self):
        self.assertEqual(flipped(other=(3,), face=(0, 2), family=RING), ((0, 1), (0, 3), (1, 2), (2, 3)))
        self.assertEqual(flips_of(((0, 1), (0, 3), (1, 2), (2, 3)))[:2], (((0,), (1, 3)), ((0, 1), (4,))))
        self.assertEqual(flipped(((0, 1), (0, 3), (1, 2), (2, 3)), (0,), (1, 3)), RING)
        self.assertEqual(flipped(((0, 1), (0, 3), (1, 2), (2, 3)), (1,), (0, 2)), RING)
        self.assertEqual(len(flips_of(family=RING)), 3)
        for d in range(2, 8):
            whole = tuple(combinations(range(d + 1), d))
            self.assertEqual(flips_of(whole), tuple((facet, (d + 1,)) for facet in whole))
        # All pairs of points are faces here, so just facets and faces about which three points stand can go.
        full = first_sphere(most_sphere(7, 4))
        self.assertTrue(all(len(other) != 2 for _, other in flips_of(full)))
        self.assertEqual(flips_of(full), plain_flips(full))
        for family in (join_of(RING, RING), hung_of(hung_of(RING)), hung_of(hung_of(((0,), (1,)))), hung_of(RING)):
            self.assertEqual(flips_of(family), plain_flips(family))

    def test_eight_points(self):
        for family in (tuple(combinations(range(8), 7)), first_sphere((8, 18, 12)), first_sphere((8, 8))):
            flips = flips_of(family)
            self.assertEqual(flips, plain_flips(family))
            self.assertIn((family[0], (8,)), flips)
            for face, other in flips:
                if other != (8,):
                    self.assertEqual(flipped(family, face, other), plain_flipped(family, face, other))


class WrongInputs(unittest.TestCase, Raises):

    def test_families(self):
        for thing in wrong_families():
            self.assert_bad(BadFamily, thing, flips_of, thing)
            self.assert_bad(BadFamily, thing, flips_of, family=thing)
            for face, other in (((0, 1), (3,)), (None, None)):
                self.assert_bad(BadFamily, thing, flipped, thing, face, other)

    def test_families_that_are_not_round(self):
        families = [family for n in range(1, 5) for family in families_of(n)]
        families += [family for family in many_families() if 4 < points_number(family) < 9][::3] + [FOLDED, OVER_2_TWICE, OVER_3_TWICE]
        many = 0
        for family in families:
            if len(family[0]) > 1 or max(map(len, family)) > 1:
                wrong = plain_bad_faces(family, 2)
                if not wrong:
                    self.assertIsNone(error_of(flips_of, family))
                    continue
                for call, rest in ((flips_of, ()), (flipped, ((0, 1), (3,))), (flipped, (None, ()))):
                    error = error_of(call, family, *rest)
                    self.assertIs(type(error), NotSphere, family)
                    self.assertIn(repr(error.certificate), [repr(("face", face)) for face in wrong])
                    self.assertIs(round_holds(family, 2, error.certificate), True)
                many += 1
        self.assertGreater(many, 100)

    def test_facets_of_one_point_and_none(self):
        for family in ((), ((0,),), ((0,), (1,)), tuple((point,) for point in range(8))):
            self.assert_raises_with(NotSphere, "certificate", ("face", ()), flips_of, family)
            self.assert_raises_with(NotSphere, "certificate", ("face", ()), flipped, family, (0,), (2,))
            self.assert_raises_with(NotSphere, "certificate", ("face", ()), flipped, other=None, face=True, family=family)

    def check_no_flip(self, family, face, other):
        error = error_of(flipped, family, face, other)
        self.assertIs(type(error), NoFlip, (family, face, other))
        self.assertEqual([type(error.thing), len(error.thing)], [tuple, 2])
        self.assertIs(error.thing[0], face)
        self.assertIs(error.thing[1], other)

    def test_all_pairs_of_sets(self):
        for family in (RING, ((0, 1), (0, 3), (1, 2), (2, 3)), first_sphere((5, 9, 6)), first_sphere((5, 10, 10, 5))):
            flips = plain_flips(family)
            n = points_number(family)
            sets = [tuple(sorted(part)) for part in all_sets(range(n + 1 + (n < 5)))]
            pairs = [(face, other) for face in sets for other in sets]
            for at, (face, other) in enumerate(pairs):
                if (face, other) in flips:
                    self.assertEqual(flipped(family, face, other), plain_flipped(family, face, other))
                elif n < 5 or len(face) + len(other) == len(family[0]) + 1 and at % 3 == 0 or at % 17 == 0:
                    self.check_no_flip(family, face, other)

    def test_any_values(self):
        family = ((0, 1), (0, 3), (1, 2), (2, 3))
        flips = [repr(flip) for flip in plain_flips(family)]
        self.assertEqual(plain_flips(RING), (((0, 1), (3,)), ((0, 2), (3,)), ((1, 2), (3,))))
        for thing in NO_INTEGERS + PARTS:
            self.check_no_flip(RING, (0,), thing)
        for face, other in (((0, 1), (4,)), ((0,), (1, 3))):
            pairs = [(thing, other) for thing in NO_INTEGERS + PARTS + tuple(spoiled(face))]
            pairs += [(face, thing) for thing in NO_INTEGERS + PARTS + tuple(spoiled(other))]
            pairs += [(thing, thing) for thing in NO_INTEGERS + PARTS]
            for one, two in pairs:
                if repr((one, two)) not in flips:
                    self.check_no_flip(family, one, two)

    def test_too_many_points(self):
        for family in (tuple(combinations(range(8), 7)), first_sphere((8, 18, 12)), first_sphere((8, 8))):
            for facet in family[:3]:
                self.assert_raises_with(TooGreat, "points", 9, flipped, family, facet, (8,))
                self.assert_raises_with(TooGreat, "points", 9, flipped, other=(8,), face=facet, family=family)
            # What is no flip is told ahead of too many points.
            self.check_no_flip(family, family[0][:-1], (8,))
            self.check_no_flip(family, family[0], (9,))
        for family in (tuple(combinations(range(7), 6)), first_sphere((7, 15, 10)), first_sphere((7, 7))):
            self.assertEqual(points_number(flipped(family, family[0], (7,))), 8)


if __name__ == "__main__":
    unittest.main()
