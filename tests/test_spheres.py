"""Promises [10.1] to [10.4], and holerows/spheres.py."""

import random
import unittest
from itertools import combinations, product
from math import comb

from holerows.builds import hung_of, join_of
from holerows.cascades import upper_products
from holerows.errors import BadCounts, BadFamily, BadField, BadNumber, BadSize, NotFit, TooGreat
from holerows.families import counts_of
from holerows.flips import flipped, flips_of
from holerows.productrows import first_order
from holerows.spheres import (
    first_ball, first_sphere, is_round, judge_round, judge_sphere, least_sphere, most_sphere, round_holds,
    sphere_holds,
)
from plain import (
    FIELDS, FOLDED, NO_INTEGERS, NO_SIZES, NO_WHOLES, OVER_2_TWICE, OVER_3_TWICE, PARTS, Raises, error_of, face_tuples, families_of,
    is_plain_counts, is_plain_family, many_families, plain_back, plain_bad_faces, plain_g, plain_h,
    points_number, some_family, spoiled, wrong_families,
)

GREAT = 10 ** 30
SMALL = [family for n in range(1, 5) for family in families_of(n)]
RING = ((0, 1), (0, 2), (1, 2))
TORUS = tuple(sorted(tuple(sorted((point + step) % 7 for step in steps)) for point in range(7)
                     for steps in ((0, 1, 3), (0, 2, 3))))


def plain_certificates(family, p):
    """All certificates for a family, as the document words them."""
    return [("face", face) for face in plain_bad_faces(family, p)] or [("round",)]


def plain_sphere_certificates(counts):
    """All certificates for counts, as the document words them."""
    h = plain_h(counts)
    d = len(counts)
    g = plain_g(counts)
    unequal = [("unequal", i) for i in range(d + 1) if i < d - i and h[i] != h[d - i]]
    below = [("below", i) for i in range(1, len(g)) if g[i] < 0]
    degrees = [("degree", k) for k in range(1, len(g) - 1) if g[k + 1] > upper_products(max(g[k], 0), k)]
    return unequal or below or degrees or [("fits", g)]


def counts_with_g(d, g):
    """The counts of facets of d points with a g-row."""
    h = [sum(g[:i + 1]) for i in range(d // 2 + 1)]
    return plain_back(tuple(h[min(i, d - i)] for i in range(d + 1)))


def is_among(thing, rights):
    """repr tells bools from integers and lists from tuples."""
    return repr(thing) in [repr(right) for right in rights]


def plain_ball(counts):
    d = len(counts)
    m = d // 2
    b = 1 if d % 2 == 0 else 2
    facets = []
    for a in first_order(plain_g(counts)):
        s = [0] * (m - len(a)) + [letter + 1 for letter in a]
        facet = list(range(b))
        for i in range(1, m + 1):
            facet += [b + 2 * (i - 1) + s[i - 1], b + 2 * (i - 1) + s[i - 1] + 1]
        facets.append(tuple(facet))
    return tuple(sorted(facets))


def plain_sphere(ball, d):
    points = sorted({point for facet in ball for point in facet})
    return tuple(part for part in combinations(points, d) if sum(set(part) <= set(facet) for facet in ball) == 1)


def rows_g(d, n):
    """All rows g of d that fit, with n points."""
    rows = [(1,)]
    for k in range(1, d // 2 + 1):
        rows = [row + (more,) for row in rows
                for more in ([n - d - 1] if k == 1 else range(upper_products(row[k - 1], k - 1) + 1))]
    return rows if d > 1 else [(1,)] * (n == 2)


def middle_families():
    """Families of five to eight points, some round and many that are nearly so."""
    chance = random.Random(1982)
    families = [FOLDED, TORUS, TORUS[1:], FOLDED[2:], tuple(combinations(range(7), 6)), tuple(combinations(range(7), 3))]
    families += [family for family in many_families() if 4 < points_number(family) < 8][::5]
    families += [some_family(chance, 5, many, 3) for many in (5, 9)]
    for counts in ((5, 5), (5, 9, 6), (6, 12, 8), (7, 15, 10), (6, 14, 16, 8)):
        sphere = first_sphere(counts)
        families += [sphere, hung_of(sphere), sphere + (sphere[0][:-1] + (counts[0],),)]
    families += [join_of(RING, RING), join_of(RING, ((0,), (1,), (2,))), join_of(RING, ((0,),))]
    # Two spheres with a common point, and with a common edge.
    hollow = tuple(combinations(range(4), 3))
    families += [hollow + ((3, 4, 5), (3, 4, 6), (3, 5, 6), (4, 5, 6)), hollow + ((2, 3, 4), (2, 3, 5), (2, 4, 5), (3, 4, 5))]
    return [tuple(sorted(family)) for family in families]


class RoundFamilies(unittest.TestCase):

    def check(self, family, p):
        rights = plain_certificates(family, p)
        told = judge_round(family, p)
        self.assertTrue(is_among(told, rights), (family, p, told))
        self.assertEqual(judge_round(p=p, family=family), told)
        self.assertIs(is_round(p=p, family=family), rights == [("round",)])
        for right in rights[:1] + rights[1:-1:5]:
            self.assertIs(round_holds(family, p, right), True)
        self.assertIs(round_holds(thing=rights[-1], p=p, family=family), True)
        return told[0]

    def test_all_small_families(self):
        for family in SMALL:
            for p in FIELDS:
                self.check(family, p)

    def test_middle_families(self):
        kinds = [self.check(family, p) for family in middle_families() for p in (0, 2, 3)]
        self.assertGreater(min(kinds.count("round"), kinds.count("face")), 30)

    def test_each_field(self):
        for family in (RING, ((0, 1), (1, 2)), FOLDED, TORUS, first_sphere((6, 14, 16, 8))):
            for p in FIELDS:
                self.check(family, p)

    def test_holes_that_one_field_sees(self):
        for family, alone in ((OVER_3_TWICE, 3), (OVER_2_TWICE, 2)):
            for p in FIELDS:
                self.assertIs(("face", ()) in plain_certificates(family, p), p == alone)
                self.assertIs(round_holds(family, p, ("face", ())), p == alone)
                self.check(family, p)

    def test_facets_of_unlike_sizes(self):
        """The whole has just the hole of a sphere, but an edge hangs on it."""
        family = tuple(sorted(tuple(combinations(range(4), 3)) + ((3, 4),)))
        for p in FIELDS:
            self.assertEqual(plain_certificates(family, p), [("face", face) for face in ((), (3,), (3, 4), (4,))])
            for right in plain_certificates(family, p):
                self.assertIs(round_holds(family, p, right), True)
            self.check(family, p)

    def test_each_face(self):
        for family in SMALL[::9] + [FOLDED, TORUS[2:], ((0, 1), (0, 2), (0, 3), (1, 2), (1, 3)), ((0, 1, 2), (2, 3))]:
            for p in (0, 2):
                rights = plain_certificates(family, p)
                self.assertIs(round_holds(family, p, ("round",)), rights == [("round",)])
                for face in sorted(face_tuples(family)) + [(9,), (0, 5)]:
                    self.assertIs(round_holds(family, p, ("face", face)), ("face", face) in rights, (family, p, face))

    def test_small_round_families(self):
        self.assertEqual([family for family in SMALL if is_round(family, 2)], [
            family for family in SMALL if plain_bad_faces(family, 2) == ()])
        self.assertEqual(len([family for family in SMALL if is_round(family, 2)]), 6)

    def test_edges(self):
        for p in FIELDS:
            self.assertEqual(judge_round(((0,), (1,)), p), ("round",))
            self.assertEqual([judge_round(family, p) for family in (((0,),), ((0,), (1,), (2,)))], [("face", ())] * 2)
            for n in range(2, 9):
                self.assertIs(is_round(tuple(combinations(range(n), n - 1)), p), True)
            self.assertIs(is_round((tuple(range(8)),), p), False)
            # A facet of fewer points has the link (), and the whole has facets of unlike sizes.
            self.assertEqual(plain_certificates(RING + ((3,),), p), [("face", ()), ("face", (3,))])
            self.check(RING + ((3,),), p)
            # Two rings side by side: each point is well, the whole has two holes.
            rings = RING + ((3, 4), (3, 5), (4, 5))
            self.assertEqual(plain_certificates(rings, p), [("face", ())])
            self.check(rings, p)
            # A torus is well about each face but ().
            self.assertEqual(plain_certificates(TORUS, p), [("face", ())])

    def test_certificates_with_a_change(self):
        for family in (((0,), (1,)), RING, ((0, 1), (1, 2)), ((0, 1), (2,)), ((0,),)):
            for p in (0, 3):
                rights = plain_certificates(family, p)
                things = ["round", ["round"], ("face",), ("face", []), ("face", (), 0), ("face", (True,)), ("face", (False,))]
                things += [("sound",), ("round", ()), ("round",) * 2, ("face", (0.5,))]
                things.extend(NO_INTEGERS + PARTS)
                for right in rights + [("round",), ("face", ()), ("face", (0,))]:
                    things.extend(spoiled(right))
                for thing in things:
                    self.assertIs(round_holds(family, p, thing), is_among(thing, rights), (family, p, thing))


class CountsOfSpheres(unittest.TestCase):

    def check(self, counts):
        rights = plain_sphere_certificates(counts)
        told = judge_sphere(counts)
        self.assertTrue(is_among(told, rights), (counts, told))
        self.assertEqual(repr(judge_sphere(counts=counts)), repr(told))
        for right in rights:
            self.assertIs(sphere_holds(counts, right), True)
            self.assertIs(sphere_holds(thing=right, counts=counts), True)
        for thing in product(("fits", "unequal", "below", "degree", "size"), range(-1, len(counts) + 2)):
            self.assertIs(sphere_holds(counts, thing), thing in rights, (counts, thing))
        return told[0]

    def test_all_small_counts(self):
        kinds = set()
        for length in range(1, 4):
            for counts in product(range(1, 10), repeat=length):
                kinds.add(self.check(counts))
        self.assertEqual(kinds, {"fits", "unequal", "below"})

    def test_all_small_rows_g(self):
        kinds = []
        for d in range(2, 9):
            for rest in product(range(-1, 4), repeat=min(d // 2, 3)):
                g = (1,) + rest + (0,) * (d // 2 - len(rest))
                counts = counts_with_g(d, g)
                if min(counts) > 0:
                    self.assertEqual(plain_g(counts), g)
                    kinds.append(self.check(counts))
                    for k in range(d):
                        self.check(counts[:k] + (counts[k] + 1,) + counts[k + 1:])
        self.assertEqual(set(kinds), {"fits", "below", "degree"})

    def test_just_the_counts_of_small_round_families(self):
        told = {counts_of(family) for family in SMALL if is_round(family, 2)}
        for length in range(1, 5):
            for counts in product(range(1, 7), repeat=length):
                if counts[0] < 5:
                    self.assertEqual(judge_sphere(counts)[0] == "fits", counts in told, counts)

    def test_great_counts(self):
        chance = random.Random(80)
        for digits in (1, 3, 10):
            for d in (1, 2, 3, 4, 9, 15, 16):
                for _ in range(3):
                    g = [1] + [chance.randint(0, 10 ** digits)] * (d > 1)
                    for k in range(1, d // 2):
                        g.append(min(upper_products(g[-1], k), chance.choice([0, 3, 10 ** digits])))
                    counts = counts_with_g(d, tuple(g))
                    self.assertEqual(self.check(counts), "fits")
                    self.assertEqual(judge_sphere(counts), ("fits", tuple(g)))
                    for k in range(2, len(g)):
                        more = g[:k] + [upper_products(g[k - 1], k - 1) + 1] + g[k + 1:]
                        self.assertEqual(self.check(counts_with_g(d, tuple(more))), "degree")
                        self.assertIs(sphere_holds(counts_with_g(d, tuple(more)), ("degree", k - 1)), True)
        self.assertEqual([self.check((GREAT,) * 16), self.check((GREAT,)), self.check((GREAT, GREAT))],
                         ["unequal", "unequal", "fits"])

    def test_edges(self):
        self.assertEqual([judge_sphere((2,)), judge_sphere((3, 3)), judge_sphere((2, 2))],
                         [("fits", (1,)), ("fits", (1, 0)), ("below", 1)])
        self.assertEqual([self.check((1,)), self.check((3,)), self.check((1, 1))], ["unequal", "unequal", "below"])
        # Of several kinds of faults just the first one is told.
        self.assertEqual(plain_sphere_certificates((3, 2, 2)), [("unequal", 0), ("unequal", 1)])
        self.assertEqual(self.check((3, 2, 2)), "unequal")
        below = counts_with_g(6, (1, 3, -1, 9))
        self.assertEqual(plain_sphere_certificates(below), [("below", 2)])
        self.assertEqual(self.check(below), "below")
        two = counts_with_g(8, (1, 5, -1, -1, 1))
        self.assertEqual(plain_sphere_certificates(two), [("below", 2), ("below", 3)])
        self.assertEqual(self.check(two), "below")
        self.assertEqual(plain_sphere_certificates(counts_with_g(6, (1, 0, 1, 2))), [("degree", 1), ("degree", 2)])
        self.assertEqual(self.check(counts_with_g(6, (1, 0, 1, 2))), "degree")

    def test_certificates_with_a_change(self):
        for counts in ((2,), (3,), (3, 3), (4, 6, 4), (5, 8, 5), (2, 2), (3, 2, 1), counts_with_g(4, (1, 1, 2))):
            rights = plain_sphere_certificates(counts)
            things = [("fits",), ("fits", ()), ("fits", (1,)), ("unequal", True), ("unequal", False), "fits", ["below", 1]]
            things.extend(NO_WHOLES + PARTS)
            for right in rights + [("unequal", 0), ("below", 1), ("degree", 1)]:
                things.extend(spoiled(right))
            for thing in things:
                self.assertIs(sphere_holds(counts, thing), is_among(thing, rights), (counts, thing))


class FirstSpheres(unittest.TestCase, Raises):

    def check(self, counts):
        ball = first_ball(counts)
        sphere = first_sphere(counts)
        self.assertTrue(is_plain_family(ball) and is_plain_family(sphere), counts)
        self.assertEqual([ball, first_ball(counts=counts)], [plain_ball(counts)] * 2)
        self.assertEqual([sphere, first_sphere(counts=counts)], [plain_sphere(ball, len(counts))] * 2)
        self.assertEqual(counts_of(sphere), counts)
        if points_number(sphere) < 7:
            for p in FIELDS:
                self.assertEqual(plain_bad_faces(sphere, p), ())
        if points_number(sphere) < 9:
            self.assertIs(is_round(sphere, 2), True)

    def test_all_rows_g_of_up_to_nine_points(self):
        many = 0
        for n in range(2, 10):
            for d in range(1, n):
                rows = rows_g(d, n)
                for g in rows if n < 8 else rows[:1] + rows[1::6]:
                    self.check(counts_with_g(d, g))
                    many += 1
        self.assertGreater(many, 40)

    def test_what_does_not_fit(self):
        for length in range(1, 4):
            for counts in product(range(1, 8), repeat=length):
                rights = plain_sphere_certificates(counts)
                if rights[0][0] != "fits":
                    for call in (first_ball, first_sphere):
                        error = error_of(call, counts)
                        self.assertIs(type(error), NotFit)
                        self.assertTrue(is_among(error.certificate, rights))
                        self.assertIs(sphere_holds(counts, error.certificate), True)
        for counts in (counts_with_g(4, (1, 1, 2)), counts_with_g(6, (1, 0, 0, 1))):
            self.assertEqual(error_of(first_sphere, counts).certificate[0], "degree")

    def test_edges(self):
        self.assertEqual([first_ball((2,)), first_sphere((2,))], [((0, 1),), ((0,), (1,))])
        self.assertEqual([first_ball((3, 3)), first_sphere((3, 3))], [((0, 1, 2),), RING])
        nine = counts_of(tuple(combinations(range(9), 8)))
        self.assertEqual([first_ball(nine), first_sphere(nine)], [(tuple(range(9)),), tuple(combinations(range(9), 8))])
        self.assertEqual(len(first_sphere((9, 9))), 9)
        for counts in ((10, 10), (GREAT, GREAT), counts_with_g(4, (1, 5, 2)), counts_with_g(9, (1, 0, 0, 0, 0))):
            for call in (first_ball, first_sphere):
                self.assert_raises_with(TooGreat, "points", counts[0], call, counts)
        # What does not fit is told ahead of too many points.
        for counts in ((10,), (10, 11), (GREAT, GREAT, 1), counts_with_g(4, (1, 5, 16))):
            for call in (first_ball, first_sphere):
                self.assertIs(type(error_of(call, counts)), NotFit)


class Ends(unittest.TestCase, Raises):

    def test_rows_g(self):
        for d in range(2, 17):
            for n in list(range(d + 1, d + 8)) + [50, GREAT]:
                g = (1, n - d - 1) + (0,) * (d // 2 - 1)
                self.assertEqual(repr(least_sphere(n, d)), repr(counts_with_g(d, g)))
                g = (1,) + tuple(comb(n - d - 2 + k, k) for k in range(1, d // 2 + 1))
                self.assertEqual(repr(most_sphere(n, d)), repr(counts_with_g(d, g)))
                self.assertEqual([least_sphere(d=d, n=n)[0], most_sphere(d=d, n=n)[0]], [n, n])
                for counts in (least_sphere(n, d), most_sphere(n, d)):
                    self.assertEqual(plain_sphere_certificates(counts)[0][0], "fits")
                    self.assertEqual(judge_sphere(counts)[0], "fits")

    def test_edges(self):
        for d in range(2, 17):
            whole = tuple(comb(d + 1, k) for k in range(1, d + 1))
            self.assertEqual([least_sphere(d + 1, d), most_sphere(d + 1, d)], [whole] * 2)
            self.assertEqual(least_sphere(d + 2, d)[0], d + 2)
        self.assertEqual([least_sphere(GREAT, 2), most_sphere(GREAT, 2)], [(GREAT, GREAT)] * 2)
        self.assertEqual(least_sphere(GREAT, 3), (GREAT, 3 * GREAT - 6, 2 * GREAT - 4))
        self.assertEqual(most_sphere(GREAT, 3), least_sphere(GREAT, 3))
        self.assertEqual(most_sphere(9, 4)[:2], (9, 36))
        self.assertEqual(len(most_sphere(GREAT, 16)), 16)

    def test_built_spheres_lie_between(self):
        chance = random.Random(1973)
        for d in (2, 3, 4, 5):
            family = tuple(combinations(range(d + 1), d))
            for _ in range(14):
                flips = [flip for flip in flips_of(family) if flip[1] < (8,)]
                family = flipped(family, *chance.choice(flips))
                counts = counts_of(family)
                for least, many, most in zip(least_sphere(counts[0], d), counts, most_sphere(counts[0], d)):
                    self.assertTrue(least <= many <= most)
        for n in range(3, 10):
            for d in range(2, n):
                for g in rows_g(d, n):
                    counts = counts_with_g(d, g)
                    for least, many, most in zip(least_sphere(n, d), counts, most_sphere(n, d)):
                        self.assertTrue(least <= many <= most)

    def test_wrong_numbers_and_sizes(self):
        for call in (least_sphere, most_sphere):
            for wrong in NO_WHOLES:
                for d in (2, 1, None):
                    self.assert_bad(BadNumber, wrong, call, wrong, d)
            for wrong in NO_SIZES + (1,):
                for n in (0, 1, 7):
                    self.assert_bad(BadSize, wrong, call, n, wrong)
                    self.assert_bad(BadSize, wrong, call, d=wrong, n=n)
            for d in range(2, 17):
                for n in (0, 1, d - 1, d):
                    self.assert_bad(BadNumber, n, call, n, d)
                    self.assert_bad(BadNumber, n, call, d=d, n=n)
            self.assert_bad(BadNumber, 9, call, 9, 10 ** 39)


class WrongInputs(unittest.TestCase, Raises):

    def test_families(self):
        for thing in wrong_families() + [()]:
            for p in (2, 1, None):
                for call in (is_round, judge_round):
                    self.assert_bad(BadFamily, thing, call, thing, p)
                self.assert_bad(BadFamily, thing, round_holds, thing, p, ("round",))
            self.assert_bad(BadFamily, thing, judge_round, p=True, family=thing)

    def test_fields(self):
        for family in (((0,), (1,)), ((0, 1), (2,)), RING):
            for thing in NO_INTEGERS + PARTS + (4, 11, -2):
                if type(thing) is not int or thing not in FIELDS:
                    for call in (is_round, judge_round):
                        self.assert_bad(BadField, thing, call, family, thing)
                    self.assert_bad(BadField, thing, round_holds, family, thing, ("round",))
                    self.assert_bad(BadField, thing, is_round, p=thing, family=family)

    def test_counts(self):
        wrong = NO_INTEGERS + PARTS + ((1,) * 17, (1, 0), (4, True), [4, 5]) + tuple(spoiled((4, 6, 4)))
        for thing in wrong:
            if not is_plain_counts(thing) or thing == ():
                for call in (judge_sphere, first_ball, first_sphere):
                    self.assert_bad(BadCounts, thing, call, thing)
                    self.assert_bad(BadCounts, thing, call, counts=thing)
                self.assert_bad(BadCounts, thing, sphere_holds, thing, ("unequal", 0))


if __name__ == "__main__":
    unittest.main()
