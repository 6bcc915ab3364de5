"""Promises [8.1], [8.2], [8.4] and [8.5], and holerows/sound.py."""

import random
import unittest
from functools import cmp_to_key
from itertools import combinations, product

from holerows.builds import cone_of, join_of, link_of, skeleton_of
from holerows.cascades import upper_products
from holerows.errors import BadCounts, BadFamily, BadField, NotFit, TooGreat
from holerows.families import counts_of, faces_of
from holerows.productrows import counts_of_h, first_order, h_row
from holerows.shellings import is_shelling, new_faces
from holerows.sound import (
    depth_of, is_sound, judge_sound, judge_sound_counts, pure_first, sound_counts_hold, sound_holds,
)
from plain import (
    FIELDS, FOLDED, NO_INTEGERS, PARTS, Raises, error_of, face_tuples, families_of, is_plain_counts,
    is_plain_family, many_families, plain_depth, plain_faces, plain_h, plain_low_holes, plain_order,
    points_number, some_family, spoiled, wrong_families,
)

GREAT = 10 ** 30
SMALL = [()] + [family for n in range(1, 5) for family in families_of(n)]


def middle_families():
    """Families of five to seven points: skeletons, whole ones, and some that a seeded chance picks."""
    chance = random.Random(1976)
    families = [FOLDED, tuple(combinations(range(7), 3)), (tuple(range(7)),), tuple((point,) for point in range(7))]
    families += [family for family in many_families() if 4 < points_number(family) < 8][::2]
    families += [some_family(chance, n, many, 3) for n in (5, 6) for many in (4, 6, 9, 14)]
    # Cones, and families hung on two points, of the folded plane have bad faces that are not ().
    families += [tuple(facet + (6,) for facet in FOLDED), FOLDED + ((4, 5, 6),), FOLDED + ((5, 6),)]
    return families


def plain_certificates(family, p):
    """All certificates for a family, as the document words them."""
    wrong = [("face", face, k) for face, k in plain_low_holes(family, p)]
    return wrong or [("sound",)]


def plain_counts_certificates(counts):
    """All certificates for counts, as the document words them."""
    h = plain_h(counts)
    below = [("below", j) for j in range(len(h)) if h[j] < 0]
    wrong = [("degree", k) for k in range(1, len(h) - 1) if not below and h[k + 1] > upper_products(h[k], k)]
    return below or wrong or [("fits", h)]


def is_among(thing, rights):
    """repr tells bools from integers and lists from tuples."""
    return repr(thing) in [repr(right) for right in rights]


def plain_pure(counts):
    d = len(counts)
    facets = []
    for a in first_order(plain_h(counts)):
        e = len(a)
        facets.append(tuple(range(d - e)) + tuple(a[i] + d - e + 1 + i for i in range(e)))
    return tuple(sorted(facets)) if d else ()


class SoundFamilies(unittest.TestCase):

    def check(self, family, p):
        rights = plain_certificates(family, p)
        told = judge_sound(family, p)
        self.assertTrue(is_among(told, rights), (family, p, told))
        self.assertIs(is_sound(p=p, family=family), rights == [("sound",)])
        for right in rights[:1] + rights[1:-1:7]:
            self.assertIs(sound_holds(family, p, right), True)
        self.assertIs(sound_holds(thing=rights[-1], p=p, family=family), True)
        self.assertEqual(depth_of(family, p), plain_depth(family, p), (family, p))
        return told[0]

    def test_all_small_families(self):
        for family in SMALL:
            for p in FIELDS:
                self.check(family, p)

    def test_middle_families(self):
        kinds = {self.check(family, p) for family in middle_families() for p in FIELDS}
        self.assertEqual(kinds, {"sound", "face"})

    def test_each_face_and_dimension(self):
        for family in SMALL[::11] + [FOLDED + ((5, 6),), ((0, 1, 2), (2, 3, 4)), ((0, 1), (2, 3, 4))]:
            for p in (0, 2, 3):
                rights = plain_certificates(family, p)
                self.assertIs(sound_holds(family, p, ("sound",)), rights == [("sound",)])
                for face in sorted(face_tuples(family))[::1 + len(family) // 8] + [(9,), (0, 5)]:
                    for k in range(-1, 3):
                        thing = ("face", face, k)
                        self.assertIs(sound_holds(family, p, thing), thing in rights, (family, p, thing))

    def test_the_folded_plane(self):
        self.assertEqual([is_sound(FOLDED, p) for p in FIELDS], [True, False, True, True, True])
        self.assertEqual(judge_sound(FOLDED, 2), ("face", (), 1))
        self.assertEqual([depth_of(FOLDED, p) for p in FIELDS], [3, 2, 3, 3, 3])
        cone = cone_of(FOLDED)
        self.assertEqual(plain_certificates(cone, 2), [("face", (6,), 1)])
        self.assertEqual([judge_sound(cone, p) for p in (2, 3)], [("face", (6,), 1), ("sound",)])

    def test_facets_of_sound_families(self):
        """They have equal sizes; and with two points or more the family is of one part."""
        for family in SMALL + middle_families():
            for p in FIELDS:
                if is_sound(family, p):
                    self.assertLess(len(set(map(len, family))), 2)
                    if max(map(len, family), default=0) > 1:
                        self.assertIs(sound_holds(family, p, ("face", (), 0)), False)

    def test_edges(self):
        lone = tuple((point,) for point in range(7))
        for p in FIELDS:
            for family in ((), ((0,),), lone, (tuple(range(7)),)):
                self.assertEqual([judge_sound(family, p), is_sound(family, p)], [("sound",), True])
            self.assertEqual([depth_of((), p), depth_of(((0,),), p), depth_of(lone, p)], [0, 1, 1])
            self.assertEqual(depth_of((tuple(range(7)),), p), 7)
            # A hole of the greatest dimension is no bad one, also if there are some.
            self.assertEqual(judge_sound(tuple(combinations(range(5), 2)), p), ("sound",))
            self.assertEqual(judge_sound(((0, 1), (2,)), p), ("face", (), 0))
            self.assertEqual(judge_sound(((0, 1, 2), (2, 3, 4)), p), ("face", (2,), 0))

    def test_depth_of_skeletons(self):
        for n in range(1, 8):
            for size in range(1, n + 1):
                for p in (0, 2, 7):
                    self.assertEqual(depth_of(tuple(combinations(range(n), size)), p), size)
        for size, depth in ((1, 1), (2, 2), (3, 2), (4, 2)):
            family = skeleton_of(((0, 1, 2, 3), (3, 4), (4, 5, 6)), size)
            self.assertEqual(depth_of(family, 2), depth)

    def test_certificates_with_a_change(self):
        for family in ((), ((0,),), ((0, 1), (2,)), ((0, 1, 2), (2, 3, 4)), ((0, 1), (1, 2))):
            for p in (2, 3):
                rights = plain_certificates(family, p)
                things = [("sound", ()), "sound", ["sound"], ("face",), ("face", ()), ("face", [], 0), ("face", (), True)]
                things += [("round",), ("face", (), False), ("face", (False,), 0), ("face", (2.5,), 0), ("sound",) * 2]
                things.extend(NO_INTEGERS + PARTS)
                for right in rights + [("sound",), ("face", (), 0), ("face", (2,), 0)]:
                    things.extend(spoiled(right))
                for thing in things:
                    self.assertIs(sound_holds(family, p, thing), is_among(thing, rights), (family, p, thing))


class WhatStaysSound(unittest.TestCase):

    def sound_families(self):
        for family in SMALL + [family for family in middle_families() if points_number(family) < 7]:
            for p in (0, 2, 3):
                if family and is_sound(family, p):
                    yield family, p

    def test_skeletons_links_and_cones(self):
        for family, p in self.sound_families():
            greatest = len(family[0])
            for size in range(1, greatest + 1):
                self.assertIs(is_sound(skeleton_of(family, size), p), True)
            for face in [face for size in range(greatest + 1) for face in faces_of(family, size)]:
                self.assertIs(is_sound(link_of(family, face)[1], p), True)
            cone = cone_of(family)
            self.assertIs(is_sound(cone, p), True)
            self.assertEqual(h_row(counts_of(cone)), h_row(counts_of(family)) + (0,))

    def test_joins(self):
        families = [family for family, p in self.sound_families() if p == 2]
        for one in families[:14]:
            for other in families[:40:3] + [()]:
                if points_number(one) + points_number(other) < 8:
                    self.assertIs(is_sound(join_of(one, other), 2), True)

    def test_the_rows_of_sound_families_fit(self):
        for family, _ in self.sound_families():
            h = plain_h(counts_of(family))
            self.assertEqual(judge_sound_counts(counts_of(family)), ("fits", h))


class CountsOfSoundFamilies(unittest.TestCase):

    def check(self, counts):
        rights = plain_counts_certificates(counts)
        told = judge_sound_counts(counts)
        self.assertTrue(is_among(told, rights), (counts, told))
        self.assertEqual(repr(judge_sound_counts(counts=counts)), repr(told))
        for right in rights:
            self.assertIs(sound_counts_hold(counts, right), True)
            self.assertIs(sound_counts_hold(thing=right, counts=counts), True)
        for thing in product(("fits", "below", "degree", "size"), range(-1, len(counts) + 2)):
            self.assertIs(sound_counts_hold(counts, thing), thing in rights, (counts, thing))
        return told[0]

    def test_all_small_counts(self):
        kinds = set()
        for length in range(4):
            for counts in product(range(1, 9), repeat=length):
                kinds.add(self.check(counts))
        self.assertEqual(kinds, {"fits", "below", "degree"})

    def test_just_the_counts_of_sound_families(self):
        told = {counts_of(family) for family in SMALL if not plain_low_holes(family, 2)}
        for length in range(5):
            for counts in product(range(1, 7), repeat=length):
                if counts[:1] <= (4,):
                    right = counts in told
                    self.assertEqual(judge_sound_counts(counts)[0] == "fits", right, counts)

    def test_great_counts(self):
        chance = random.Random(84)
        for digits in (1, 4, 14, 29):
            for length in (1, 2, 3, 8, 15, 16):
                h = [1, chance.randint(0, 10 ** digits)]
                for k in range(1, length):
                    h.append(min(upper_products(h[-1], k), chance.choice([0, 3, 10 ** digits])))
                counts = counts_of_h(tuple(h))
                self.assertEqual(self.check(counts), "fits")
                self.assertEqual(judge_sound_counts(counts), ("fits", tuple(h)))
                for k in range(2, length + 1):
                    more = h[:k] + [upper_products(h[k - 1], k - 1) + 1] + h[k + 1:]
                    self.assertEqual(self.check(counts_of_h(tuple(more))), "degree")
                    self.assertIs(sound_counts_hold(counts_of_h(tuple(more)), ("degree", k - 1)), True)
        self.assertEqual(self.check((GREAT,) * 16), "below")
        self.assertEqual(self.check((GREAT,)), "fits")

    def test_edges(self):
        self.assertEqual(judge_sound_counts(()), ("fits", (1,)))
        self.assertEqual([judge_sound_counts((1,)), judge_sound_counts((7,))], [("fits", (1, 0)), ("fits", (1, 6))])
        # A number below 0 comes ahead of what the degrees say.
        self.assertEqual(plain_h((3, 3, 2)), (1, 0, 0, 1))
        self.assertEqual(self.check((3, 3, 2)), "degree")
        self.assertEqual(plain_h((5, 4)), (1, 3, 0))
        self.assertEqual(plain_h((6, 4, 1)), (1, 3, -5, 2))
        self.assertEqual(self.check((6, 4, 1)), "below")
        self.assertIs(sound_counts_hold((6, 4, 1), ("degree", 2)), False)
        self.assertEqual(plain_counts_certificates((1, 1, 1, 1, 1)), [("below", 1), ("below", 3)])
        self.assertEqual(plain_counts_certificates((3, 3, 2, 2, 2))[0][0], "below")

    def test_certificates_with_a_change(self):
        for counts in ((), (1,), (4, 5, 2), (3, 1), (3, 3, 2), (1, 1, 1, 1, 1), (4, 4)):
            rights = plain_counts_certificates(counts)
            things = [("fits",), ("fits", ()), ("fits", (1,)), ("below", True), ("degree", True), "below", ["below", 2]]
            things.extend(NO_INTEGERS + PARTS)
            for right in rights + [("below", 2), ("degree", 1)]:
                things.extend(spoiled(right))
            for thing in things:
                self.assertIs(sound_counts_hold(counts, thing), is_among(thing, rights), (counts, thing))


class PureFirstFamilies(unittest.TestCase, Raises):

    def check(self, counts):
        family = pure_first(counts)
        self.assertTrue(is_plain_family(family), counts)
        self.assertEqual(family, plain_pure(counts))
        self.assertEqual(pure_first(counts=counts), family)
        self.assertEqual(counts_of(family), counts)
        if points_number(family) < 7:
            for p in FIELDS:
                self.assertIs(is_sound(family, p), True)
        if family:
            along = tuple(sorted(family, key=cmp_to_key(plain_order)))
            self.assertIs(is_shelling(family, along), True)
            sizes = [len(face) for face in new_faces(family, along)]
            self.assertEqual(tuple(sizes.count(i) for i in range(len(counts) + 1)), plain_h(counts))

    def test_all_small_counts(self):
        many = 0
        for length in range(5):
            for counts in product(range(1, 12 if length < 3 else 6), repeat=length):
                if counts[:1] > (9,):
                    continue
                if plain_counts_certificates(counts)[0][0] == "fits":
                    self.check(counts)
                    many += 1
                else:
                    error = error_of(pure_first, counts)
                    self.assertIs(type(error), NotFit)
                    self.assertTrue(is_among(error.certificate, plain_counts_certificates(counts)))
                    self.assertIs(sound_counts_hold(counts, error.certificate), True)
        self.assertGreater(many, 40)

    def test_rows_h_of_up_to_nine_points(self):
        chance = random.Random(9)
        for d in range(1, 10):
            for _ in range(6):
                h = [1, chance.randint(0, 9 - d)]
                for k in range(1, d):
                    h.append(chance.randint(0, upper_products(h[-1], k)))
                self.check(counts_of_h(tuple(h[:d + 1])))
        self.check(counts_of(tuple(combinations(range(9), 4))))
        self.check(counts_of((tuple(range(9)),)))

    def test_edges(self):
        self.assertEqual([pure_first(()), pure_first((1,)), pure_first((3,))], [(), ((0,),), ((0,), (1,), (2,))])
        self.assertEqual(pure_first((3, 3, 1)), ((0, 1, 2),))
        self.assertEqual(pure_first((9,)), tuple((point,) for point in range(9)))
        for counts in ((10,), (GREAT,), (10, 9), (10, 45)):
            self.assert_raises_with(TooGreat, "points", counts[0], pure_first, counts)
        # What does not fit is told ahead of too many points.
        for counts in ((10, 8), (GREAT, 1), (10, 46)):
            self.assertIs(type(error_of(pure_first, counts)), NotFit)

    def test_greater_faces_than_the_rest(self):
        self.assertEqual(len(plain_faces(pure_first((9, 36, 84, 126)))), 256)


class WrongInputs(unittest.TestCase, Raises):

    def test_families(self):
        for thing in wrong_families():
            for p in (2, 1, None):
                for call in (is_sound, judge_sound, depth_of):
                    self.assert_bad(BadFamily, thing, call, thing, p)
                self.assert_bad(BadFamily, thing, sound_holds, thing, p, ("sound",))
            self.assert_bad(BadFamily, thing, judge_sound, p=True, family=thing)

    def test_fields(self):
        for family in ((), ((0, 1), (2,)), FOLDED):
            for thing in NO_INTEGERS + PARTS + (4, 11, -2):
                if type(thing) is not int or thing not in FIELDS:
                    for call in (is_sound, judge_sound, depth_of):
                        self.assert_bad(BadField, thing, call, family, thing)
                    self.assert_bad(BadField, thing, sound_holds, family, thing, ("sound",))
                    self.assert_bad(BadField, thing, depth_of, p=thing, family=family)

    def test_counts(self):
        wrong = NO_INTEGERS + PARTS + ((1,) * 17, (1, 0), (4, True), [4, 5]) + tuple(spoiled((4, 5, 1)))
        for thing in wrong:
            if not is_plain_counts(thing):
                for call in (judge_sound_counts, pure_first):
                    self.assert_bad(BadCounts, thing, call, thing)
                    self.assert_bad(BadCounts, thing, call, counts=thing)
                self.assert_bad(BadCounts, thing, sound_counts_hold, thing, ("below", 1))


if __name__ == "__main__":
    unittest.main()
