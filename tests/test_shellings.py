"""Promise [8.3], and holerows/shellings.py."""

import random
import unittest
from itertools import combinations, permutations

from holerows.errors import BadFamily, BadSets
from holerows.families import counts_of
from holerows.shellings import a_shelling, is_shelling, new_faces
from holerows.sound import is_sound
from plain import (
    FIELDS, FOLDED, NO_INTEGERS, PARTS, Raises, all_sets, families_of, is_plain_family, plain_facets, plain_h,
    spoiled, wrong_families,
)


def plain_new_faces(facets):
    """The new faces by a look at all faces within each facet, None if some facet has none."""
    found = []
    ahead = []
    for facet in map(frozenset, facets):
        new = [face for face in all_sets(facet) if not any(face <= other for other in ahead)]
        least = [face for face in new if all(face <= other for other in new)]
        if not least:
            return None
        found.append(tuple(sorted(least[0])))
        ahead.append(facet)
    return tuple(found)


def has_plain_shelling(family):
    """A plain search: facets are put behind one another as long as each one has a new face."""
    stuck = set()

    def goes_on(ahead):
        if len(ahead) == len(family):
            return True
        if frozenset(ahead) in stuck:
            return False
        for facet in family:
            if facet not in ahead and plain_last_is_new(ahead + (facet,)) and goes_on(ahead + (facet,)):
                return True
        stuck.add(frozenset(ahead))
        return False

    return goes_on(())


def plain_last_is_new(facets):
    ahead = [frozenset(facet) for facet in facets[:-1]]
    new = [face for face in all_sets(facets[-1]) if not any(face <= other for other in ahead)]
    return any(all(face <= other for other in new) for face in new)


def are_alike(family):
    return family != () and len(set(map(len, family))) == 1


def alike_families():
    """All families of up to four points whose facets have equal sizes, and some of five and six."""
    families = [family for n in range(1, 5) for family in families_of(n) if are_alike(family)]
    chance = random.Random(83)
    for n in (5, 6):
        for size in (1, 2, 3, 4):
            for many in (2, 3, 4, 5, 6):
                sets = chance.sample(list(combinations(range(n), size)), min(many, n))
                points = sorted(set().union(*sets))
                named = [frozenset(points.index(point) for point in part) for part in sets]
                families.append(plain_facets({part for facet in named for part in all_sets(facet)}))
    return families


class Shellings(unittest.TestCase):

    def test_all_orders_of_few_facets(self):
        some, none = 0, 0
        for family in alike_families():
            if len(family) > 5:
                continue
            found = []
            for facets in permutations(family):
                new = plain_new_faces(facets)
                self.assertIs(is_shelling(family, facets), new is not None, facets)
                if new is not None:
                    self.assertEqual(new_faces(family, facets), new)
                    found.append(facets)
            told = a_shelling(family)
            some, none = some + bool(found), none + (not found)
            self.assertTrue(told in found if found else told is None, family)
        self.assertGreater(min(some, none), 8)

    def test_up_to_ten_facets(self):
        chance = random.Random(10)
        told = set()
        for n, size, many in ((5, 2, 10), (5, 3, 10), (6, 3, 6), (6, 3, 8), (6, 3, 10), (6, 4, 9), (7, 5, 10), (9, 2, 9)):
            for _ in range(4):
                sets = chance.sample(list(combinations(range(n), size)), many)
                points = sorted(set().union(*sets))
                family = tuple(sorted(tuple(points.index(point) for point in part) for part in sets))
                shelling = a_shelling(family)
                told.add(shelling is None)
                if has_plain_shelling(family):
                    self.assertIs(is_shelling(family, shelling), True)
                    self.assertEqual(sorted(shelling), sorted(family))
                    self.assertIsNotNone(plain_new_faces(shelling))
                else:
                    self.assertIsNone(shelling, family)
        self.assertEqual(told, {True, False})

    def test_first_facets_that_lead_nowhere(self):
        """The first four of these go well one behind the other, but no other one can follow them."""
        chance = random.Random(94)
        for facets in (
            ((0, 4, 5), (2, 3, 4), (1, 2, 4), (3, 4, 5), (0, 1, 3), (0, 1, 5), (0, 1, 2), (1, 3, 5), (0, 2, 3)),
            ((1, 4, 5), (1, 2, 4), (0, 2, 4), (0, 3, 4), (1, 3, 5), (0, 3, 5), (1, 2, 3), (2, 3, 5), (0, 2, 5)),
        ):
            first, others = facets[:4], facets[4:]
            orders = [order for order in permutations(first) if plain_new_faces(order) is not None]
            self.assertGreater(len(orders), 0)
            for facet in others:
                self.assertIsNone(plain_new_faces(orders[0] + (facet,)))
            for _ in range(40):
                names = chance.sample(range(6), 6)
                family = tuple(sorted(tuple(sorted(names[point] for point in facet)) for facet in facets))
                self.assertIsNotNone(plain_new_faces(a_shelling(family)))
                self.assertIs(is_shelling(family, a_shelling(family)), True)

    def test_a_ring_and_a_ring_of_strips(self):
        family = ((0, 1), (0, 4), (1, 2), (2, 3), (3, 4))
        self.assertIs(is_shelling(family, a_shelling(family)), True)
        self.assertIs(is_shelling(family, family), True)
        self.assertIsNone(a_shelling(((0, 1, 2), (0, 1, 3), (2, 4, 5), (3, 4, 5))))

    def test_the_folded_plane(self):
        self.assertIsNone(a_shelling(FOLDED))
        self.assertIs(is_shelling(FOLDED, FOLDED), False)
        self.assertIs(is_sound(FOLDED, 3), True)

    def test_shelled_families_are_sound(self):
        for family in alike_families():
            told = a_shelling(family)
            if told is not None:
                for p in FIELDS:
                    self.assertIs(is_sound(family, p), True)
                sizes = [len(face) for face in new_faces(family, told)]
                row = tuple(sizes.count(i) for i in range(len(family[0]) + 1))
                self.assertEqual(row, plain_h(counts_of(family)))

    def test_edges(self):
        self.assertEqual([a_shelling(((0,),)), a_shelling(((0, 1, 2),))], [((0,),), ((0, 1, 2),)])
        self.assertEqual(new_faces(((0, 1, 2),), ((0, 1, 2),)), ((),))
        lone = tuple((point,) for point in range(9))
        self.assertEqual(new_faces(lone, lone[::-1]), ((),) + lone[7::-1])
        self.assertIs(is_shelling(lone, a_shelling(lone)), True)
        ring = ((0, 1), (0, 2), (1, 2))
        self.assertEqual(new_faces(facets=ring[::-1], family=ring), ((), (0,), (0, 1)))
        self.assertIs(is_shelling(thing=ring[::-1], family=ring), True)
        self.assertEqual(a_shelling(family=((0, 1),)), ((0, 1),))

    def test_things_with_a_change(self):
        for family in (((0,),), ((0,), (1,)), ((0, 1), (0, 2), (1, 3)), ((0, 1, 2), (0, 1, 3), (0, 2, 3)), ((0, 1), (2, 3))):
            things = list(NO_INTEGERS + PARTS) + list(spoiled(family)) + list(spoiled(family[::-1]))
            things += [family + family[-1:], family[:-1], family[1:], family[:1] * len(family), list(family)]
            for thing in things:
                right = type(thing) is tuple and all(type(part) is tuple for part in thing)
                right = right and all(type(point) is int for part in thing for point in part)
                right = right and sorted(thing) == list(family) and plain_new_faces(thing) is not None
                self.assertIs(is_shelling(family, thing), right, (family, thing))


class WrongInputs(unittest.TestCase, Raises):

    def test_families(self):
        wrong = wrong_families() + [(), ((0, 1), (2,)), ((0, 1, 2), (2, 3)), ((0,), (1, 2))]
        for thing in wrong:
            self.assertFalse(is_plain_family(thing) and are_alike(thing))
            self.assert_bad(BadFamily, thing, a_shelling, thing)
            self.assert_bad(BadFamily, thing, a_shelling, family=thing)
            for facets in ((), thing, None):
                self.assert_bad(BadFamily, thing, is_shelling, thing, facets)
                self.assert_bad(BadFamily, thing, new_faces, thing, facets)
            self.assert_bad(BadFamily, thing, new_faces, facets=None, family=thing)

    def test_facets(self):
        family = ((0, 1), (0, 2), (1, 3))
        wrong = list(NO_INTEGERS + PARTS) + list(spoiled(family))
        wrong += [family[::-1], family[:2], family + family[:1], ((0, 2), (1, 3), (0, 1))]
        many = 0
        for thing in wrong:
            if not is_shelling(family, thing):
                many += 1
                self.assert_bad(BadSets, thing, new_faces, family, thing)
                self.assert_bad(BadSets, thing, new_faces, facets=thing, family=family)
        self.assertGreater(many, 200)
        self.assertIs(is_shelling(family, ((0, 2), (1, 3), (0, 1))), False)


if __name__ == "__main__":
    unittest.main()
