"""Promises [2.3] and [2.4], and holerows/builds.py."""

import random
import unittest
from itertools import combinations, permutations

from holerows.builds import (
    beside, cone_of, hung_of, join_of, link_of, mirror_of, renamed, skeleton_of, without,
)
from holerows.errors import BadFace, BadFamily, BadNames, BadSize, TooGreat
from holerows.families import counts_of
from plain import (
    NO_SIZES, PARTS, Raises, all_sets, is_plain_family, is_plain_set, many_families, plain_faces, plain_facets,
    plain_pair, points_number, some_families, spoiled, wrong_families,
)

FAMILIES = many_families()
FEW = some_families()
NINE_LONE = tuple((point,) for point in range(9))
NINE_IN_ONE = (tuple(range(9)),)
MIDDLE = tuple(combinations(range(9), 4))


def told(face):
    return tuple(sorted(face))


def some_faces(family):
    """All faces of families of few points, some faces of the others."""
    faces = sorted(plain_faces(family), key=told)
    if len(faces) <= 40:
        return faces
    return [frozenset(), frozenset(family[0])] + random.Random(9).sample(faces, 12)


def moved(faces, step):
    return {frozenset(point + step for point in face) for face in faces}


class Pairs(unittest.TestCase):

    def check_pair(self, pair, faces, why):
        self.assertEqual(repr(pair), repr(plain_pair(faces)), why)
        points, inner = pair
        self.assertTrue(is_plain_set(points))
        self.assertTrue(is_plain_family(inner))
        self.assertEqual(points_number(inner), len(points))

    def test_links(self):
        for family in FAMILIES:
            faces = plain_faces(family)
            for face in some_faces(family):
                linked = {other for other in faces if not other & face and other | face in faces}
                self.check_pair(link_of(family, told(face)), linked, (family, face))

    def test_edges_of_links(self):
        self.assertEqual(link_of((), ()), ((), ()))
        self.assertEqual(link_of(((0,),), (0,)), ((), ()))
        self.assertEqual(link_of(NINE_LONE, (8,)), ((), ()))
        self.assertEqual(link_of(NINE_IN_ONE, (8,)), (tuple(range(8)), (tuple(range(8)),)))
        self.assertEqual(link_of(NINE_IN_ONE, tuple(range(9))), ((), ()))
        for family in FEW:
            self.assertEqual(link_of(family, ()), (tuple(range(points_number(family))), family))
            for facet in family:
                self.assertEqual(link_of(family, facet), ((), ()))

    def test_what_is_left(self):
        for family in FAMILIES:
            faces = plain_faces(family)
            for face in some_faces(family):
                if face:
                    left = {other for other in faces if not face <= other}
                    self.check_pair(without(family, told(face)), left, (family, face))

    def test_edges_of_what_is_left(self):
        self.assertEqual(without(((0,),), (0,)), ((), ()))
        self.assertEqual(without(((0,), (1,)), (0,)), ((1,), ((0,),)))
        self.assertEqual(without(((0, 1),), (0, 1)), ((0, 1), ((0,), (1,))))
        self.assertEqual(without(NINE_IN_ONE, (4,)), ((0, 1, 2, 3, 5, 6, 7, 8), (tuple(range(8)),)))
        boundary = tuple(combinations(range(9), 8))
        self.assertEqual(without(NINE_IN_ONE, tuple(range(9))), (tuple(range(9)), boundary))

    def test_mirrors(self):
        for family in FAMILIES:
            if len(family) < 2:
                self.assertIs(mirror_of(family), None)
            else:
                faces = plain_faces(family)
                points = frozenset(range(points_number(family)))
                mirrored = {part for part in all_sets(points) if points - part not in faces}
                self.check_pair(mirror_of(family), mirrored, family)

    def test_edges_of_mirrors(self):
        for family in ((), ((0,),), ((0, 1),), NINE_IN_ONE):
            self.assertIs(mirror_of(family), None)
        for n in range(2, 10):
            self.assertEqual(mirror_of(tuple(combinations(range(n), n - 1))), ((), ()))
        self.assertEqual(mirror_of(((0,), (1,), (2,))), ((0, 1, 2), ((0,), (1,), (2,))))
        for n in range(3, 10):
            lone = (tuple(range(n - 1)), (n - 1,))
            self.assertEqual(mirror_of(lone), (lone[0], tuple(combinations(lone[0], n - 2))))

    def test_the_mirror_of_the_mirror(self):
        for family in FEW:
            if len(family) > 1:
                points, inner = mirror_of(family)
                if points == tuple(range(points_number(family))):
                    self.assertEqual(mirror_of(inner), (points, family))


class Skeletons(unittest.TestCase):

    def test_against_all_sets(self):
        for family in FAMILIES:
            faces = plain_faces(family)
            for size in range(1, 11):
                kept = {face for face in faces if len(face) <= size}
                self.assertEqual(skeleton_of(family, size), plain_facets(kept), (family, size))

    def test_edges(self):
        for size in (1, 2, 9, 10, 2 ** 31, 2 ** 63, 10 ** 30, 10 ** 39):
            self.assertEqual(skeleton_of((), size), ())
            self.assertEqual(skeleton_of(NINE_LONE, size), NINE_LONE)
            for family in FEW:
                if size > 8:
                    self.assertEqual(skeleton_of(family, size), family)
        self.assertEqual(skeleton_of(NINE_IN_ONE, 4), MIDDLE)
        self.assertEqual(skeleton_of(NINE_IN_ONE, 1), NINE_LONE)


class PutTogether(unittest.TestCase, Raises):

    def test_cones(self):
        for family in FAMILIES:
            n = points_number(family)
            if n == 9:
                self.assert_raises_with(TooGreat, "points", 10, cone_of, family)
            else:
                facets = tuple(sorted(facet + (n,) for facet in family)) or ((0,),)
                self.assertEqual(cone_of(family), facets)
                faces = plain_faces(family)
                self.assertEqual(plain_faces(cone_of(family)), faces | {face | {n} for face in faces})

    def test_hung(self):
        for family in FAMILIES:
            n = points_number(family)
            if n > 7:
                self.assert_raises_with(TooGreat, "points", n + 2, hung_of, family)
            else:
                ends = [facet + (point,) for facet in family or ((),) for point in (n, n + 1)]
                self.assertEqual(hung_of(family), tuple(sorted(ends)))
                faces = plain_faces(family)
                tops = ({face | {point} for face in faces} for point in (n, n + 1))
                self.assertEqual(plain_faces(hung_of(family)), faces.union(*tops))

    def pairs(self):
        chance = random.Random(1975)
        small = [family for family in FAMILIES if points_number(family) < 4]
        for one in small:
            for other in small:
                yield one, other
        for _ in range(300):
            yield chance.choice(FAMILIES), chance.choice(FAMILIES)
        for one in FEW:
            yield one, ()
            yield (), one
            yield one, one

    def test_joins_and_families_beside(self):
        for one, other in self.pairs():
            n = points_number(one)
            total = n + points_number(other)
            if total > 9:
                self.assert_raises_with(TooGreat, "points", total, join_of, one, other)
                self.assert_raises_with(TooGreat, "points", total, beside, one, other)
                self.assert_raises_with(TooGreat, "points", total, join_of, other=other, one=one)
                continue
            left = plain_faces(one)
            right = moved(plain_faces(other), n)
            joined = {face | far for face in left for far in right}
            self.assertEqual(join_of(one, other), plain_facets(joined))
            self.assertEqual(beside(one, other), plain_facets(left | right))
            self.assertEqual(join_of(other=other, one=one), join_of(one, other))
            self.assertEqual(beside(other=other, one=one), beside(one, other))

    def test_nothing_changes_nothing(self):
        for family in FAMILIES:
            for call in (join_of, beside):
                self.assertEqual(call(family, ()), family)
                self.assertEqual(call((), family), family)

    def test_edges(self):
        self.assertEqual(cone_of(()), ((0,),))
        self.assertEqual(hung_of(()), ((0,), (1,)))
        self.assertEqual(join_of((), ()), ())
        self.assertEqual(beside((), ()), ())
        self.assertEqual(beside(((0,),), ((0,),)), ((0,), (1,)))
        self.assertEqual(join_of(((0,),), ((0,),)), ((0, 1),))
        self.assertEqual(cone_of((tuple(range(8)),)), NINE_IN_ONE)
        self.assertEqual(join_of((tuple(range(4)),), (tuple(range(5)),)), NINE_IN_ONE)
        self.assertEqual(beside(NINE_LONE[:4], NINE_LONE[:5]), NINE_LONE)
        self.assert_raises_with(TooGreat, "points", 10, cone_of, NINE_LONE)
        self.assert_raises_with(TooGreat, "points", 11, hung_of, NINE_LONE)
        self.assert_raises_with(TooGreat, "points", 10, hung_of, NINE_LONE[:8])
        self.assert_raises_with(TooGreat, "points", 18, join_of, NINE_LONE, NINE_IN_ONE)
        self.assert_raises_with(TooGreat, "points", 18, beside, NINE_IN_ONE, NINE_LONE)


class Renamed(unittest.TestCase, Raises):

    def test_against_all_sets(self):
        chance = random.Random(6)
        for family in FAMILIES:
            n = points_number(family)
            lots = list(permutations(range(n))) if n < 4 else [
                tuple(chance.sample(range(n), n)) for _ in range(4)] + [tuple(range(n)), tuple(range(n))[::-1]]
            faces = plain_faces(family)
            for names in lots:
                called = {frozenset(names[point] for point in face) for face in faces}
                self.assertEqual(renamed(family, names), plain_facets(called))
                self.assertEqual(counts_of(renamed(names=names, family=family)), counts_of(family))
                back = tuple(names.index(point) for point in range(n))
                self.assertEqual(renamed(renamed(family, names), back), family)

    def test_wrong_names(self):
        for family in ((), ((0,),), ((0, 1),), ((0, 1), (2,)), NINE_LONE):
            n = points_number(family)
            right = tuple(range(n))[::-1]
            wrong = [*NO_SIZES, *PARTS, *spoiled(right)]
            wrong.extend([right + (n,), right[1:], right + right, tuple(range(1, n + 1)), list(right)])
            for thing in wrong:
                if type(thing) is tuple and all(type(part) is int for part in thing) and sorted(thing) == sorted(right):
                    self.assertEqual(points_number(renamed(family, thing)), n)
                else:
                    self.assert_bad(BadNames, thing, renamed, family, thing)
                    self.assert_bad(BadNames, thing, renamed, names=thing, family=family)

    def test_bools_are_no_names(self):
        for names in ((False, True), (1, False), (True, 0), (True, False)):
            self.assert_bad(BadNames, names, renamed, ((0,), (1,)), names)


class WrongInputs(unittest.TestCase, Raises):

    def test_families(self):
        for wrong in wrong_families():
            for call in (mirror_of, cone_of, hung_of):
                self.assert_bad(BadFamily, wrong, call, wrong)
                self.assert_bad(BadFamily, wrong, call, family=wrong)
            for call in (link_of, without, skeleton_of, renamed):
                for second in ((), (0,), (0, 1), 1, 0, True, None, [0]):
                    self.assert_bad(BadFamily, wrong, call, wrong, second)

    def test_the_first_family_that_is_wrong(self):
        families = wrong_families()
        for call in (join_of, beside):
            for wrong in families:
                for right in ((), ((0,),), NINE_LONE):
                    self.assert_bad(BadFamily, wrong, call, wrong, right)
                    self.assert_bad(BadFamily, wrong, call, right, wrong)
                    self.assert_bad(BadFamily, wrong, call, other=wrong, one=right)
                for other in families[::25]:
                    self.assert_bad(BadFamily, wrong, call, wrong, other)

    def test_faces(self):
        for family in ((), ((0,),), ((0, 1), (2,)), ((0, 1), (0, 2), (1, 2)), NINE_IN_ONE):
            faces = {told(face) for face in plain_faces(family)}
            for thing in list(NO_SIZES + PARTS) + [(9,), (0, 2), (0, 1, 2), (10 ** 39,)] + list(spoiled((0, 2))):
                is_right = is_plain_set(thing) and thing in faces
                if not is_right:
                    self.assert_bad(BadFace, thing, link_of, family, thing)
                    self.assert_bad(BadFace, thing, link_of, face=thing, family=family)
                if not is_right or thing == ():
                    self.assert_bad(BadFace, thing, without, family, thing)
                    self.assert_bad(BadFace, thing, without, face=thing, family=family)

    def test_bools_in_faces(self):
        for face in ((False,), (True,), (0, True), (False, 1)):
            for call in (link_of, without):
                self.assert_bad(BadFace, face, call, ((0, 1),), face)

    def test_sizes(self):
        for family in FEW:
            for wrong in NO_SIZES:
                self.assert_bad(BadSize, wrong, skeleton_of, family, wrong)
                self.assert_bad(BadSize, wrong, skeleton_of, size=wrong, family=family)


if __name__ == "__main__":
    unittest.main()
