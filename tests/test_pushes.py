"""Promises [3.3] and [3.4], and holerows/pushes.py."""

import random
import unittest
from itertools import combinations

from holerows.errors import BadFamily, BadPoint
from holerows.families import counts_of
from holerows.firsts import first_family
from holerows.holes import holes_of
from holerows.pushes import is_low, low_form, low_holes, pushed
from plain import (
    FIELDS, NO_WHOLES, PARTS, Raises, is_plain_family, is_plain_integer, many_families, plain_faces, plain_facets,
    plain_push, points_number, some_family, wrong_families,
)

FAMILIES = many_families()
NINE_LONE = tuple((point,) for point in range(9))
NINE_IN_ONE = (tuple(range(9)),)


def pairs(family):
    return list(combinations(range(points_number(family)), 2))


def some_pairs(family):
    all_pairs = pairs(family)
    return all_pairs if len(all_pairs) < 12 else random.Random(4).sample(all_pairs, 8)


def plain_low_form(family):
    """Pushed for all pairs in their order, again and again."""
    faces = plain_faces(family)
    while any(plain_push(faces, i, j) != faces for i, j in pairs(family)):
        for i, j in pairs(family):
            faces = plain_push(faces, i, j)
    return plain_facets(faces)


def plain_low_holes(family):
    faces = plain_faces(family)
    lone = [len(face) for face in faces if face and 0 not in face and face | {0} not in faces]
    return tuple(lone.count(size) for size in range(1, max(map(len, faces)) + 1))


class Pushes(unittest.TestCase):

    def test_against_all_faces(self):
        for family in FAMILIES:
            faces = plain_faces(family)
            for i, j in some_pairs(family):
                told = pushed(family, i, j)
                self.assertEqual(told, plain_facets(plain_push(faces, i, j)), (family, i, j))
                self.assertEqual(counts_of(told), counts_of(family))
                self.assertEqual(points_number(told), points_number(family))
                self.assertEqual(pushed(j=j, family=family, i=i), told)

    def test_edges(self):
        self.assertEqual(pushed(((0,), (1,)), 0, 1), ((0,), (1,)))
        self.assertEqual(pushed(((0,), (1, 2)), 0, 1), ((0, 2), (1,)))
        for i, j in pairs(NINE_LONE):
            self.assertEqual(pushed(NINE_LONE, i, j), NINE_LONE)
            self.assertEqual(pushed(NINE_IN_ONE, i, j), NINE_IN_ONE)

    def test_low_families(self):
        many_low = 0
        for family in FAMILIES:
            faces = plain_faces(family)
            right = all(plain_push(faces, i, j) == faces for i, j in pairs(family))
            self.assertIs(is_low(family), right, family)
            self.assertIs(is_low(family=family), right)
            many_low += right
        self.assertGreater(many_low, 20)
        self.assertLess(many_low, len(FAMILIES) - 20)

    def test_one_push_alone_can_change_a_family(self):
        for family, i, j in ((((0, 1), (2, 3)), 0, 2), (((0, 1), (0, 2), (3, 4)), 0, 3), (((0,), (1, 2)), 0, 1)):
            self.assertNotEqual(pushed(family, i, j), family)
            self.assertIs(is_low(family), False)
        self.assertIs(is_low(((0, 1), (0, 3), (2,))), False)
        self.assertEqual([pair for pair in pairs(((0, 1), (0, 3), (2,)))
                          if pushed(((0, 1), (0, 3), (2,)), *pair) != ((0, 1), (0, 3), (2,))], [(2, 3)])

    def test_low_forms(self):
        for family in FAMILIES:
            told = low_form(family)
            self.assertEqual(told, plain_low_form(family), family)
            self.assertEqual(low_form(family=family), told)
            self.assertIs(is_low(told), True)
            self.assertEqual(low_form(told), told)
            self.assertEqual(counts_of(told), counts_of(family))
            for i, j in some_pairs(told):
                self.assertEqual(pushed(told, i, j), told)

    def test_forms_of_families_by_chance(self):
        chance = random.Random(33)
        for _ in range(100):
            family = some_family(chance, chance.randint(5, 7), chance.randint(2, 6), 3)
            self.assertEqual(low_form(family), plain_low_form(family), family)

    def test_first_families_are_low(self):
        for family in FAMILIES:
            first = first_family(counts_of(family))
            self.assertIs(is_low(first), True)
            self.assertEqual(low_form(first), first)

    def test_no_points(self):
        self.assertEqual([is_low(()), low_form(()), low_holes(())], [True, (), ()])


class Holes(unittest.TestCase):

    def test_against_all_faces(self):
        for family in FAMILIES:
            self.assertEqual(low_holes(family), plain_low_holes(family), family)
            self.assertEqual(low_holes(family=family), plain_low_holes(family))

    def test_holes_of_low_families(self):
        for family in FAMILIES:
            low = low_form(family)
            for p in FIELDS:
                self.assertEqual(low_holes(low), holes_of(low, p), (low, p))

    def test_others_can_have_other_holes(self):
        square = ((0, 1), (0, 3), (1, 2), (2, 3))
        self.assertEqual([low_holes(square), holes_of(square, 2)], [(1, 2), (0, 1)])
        self.assertEqual(low_holes(NINE_LONE), (8,))
        self.assertEqual(low_holes(NINE_IN_ONE), (0,) * 9)


class WrongInputs(unittest.TestCase, Raises):

    def test_families(self):
        for wrong in wrong_families():
            self.assertFalse(is_plain_family(wrong))
            for call in (is_low, low_form, low_holes):
                self.assert_bad(BadFamily, wrong, call, wrong)
            for i, j in ((0, 1), (1, 0), (None, None), (True, 2), (-1, "x")):
                self.assert_bad(BadFamily, wrong, pushed, wrong, i, j)
            self.assert_bad(BadFamily, wrong, pushed, j=None, i=None, family=wrong)

    def test_points(self):
        for family in ((), ((0,),), ((0, 1), (2,)), NINE_LONE):
            n = points_number(family)
            for wrong in NO_WHOLES + PARTS + (n, n + 1, 10 ** 39):
                if not is_plain_integer(wrong, 0) or wrong >= n:
                    for j in (0, 1, n - 1, n, None, True, [1]):
                        self.assert_bad(BadPoint, wrong, pushed, family, wrong, j)
                for i in range(n):
                    if not is_plain_integer(wrong, 0) or wrong >= n or wrong <= i:
                        self.assert_bad(BadPoint, wrong, pushed, family, i, wrong)
                        self.assert_bad(BadPoint, wrong, pushed, j=wrong, i=i, family=family)

    def test_points_in_the_wrong_order(self):
        for i in range(9):
            for j in range(i + 1):
                self.assert_raises_with(BadPoint, "thing", j, pushed, NINE_IN_ONE, i, j)


if __name__ == "__main__":
    unittest.main()
