"""Promises [9.4] and [9.5], and holerows/balanced.py."""

import random
import unittest
from itertools import combinations, product
from math import comb

from holerows.balanced import balanced_hold, first_balanced, full_family, judge_balanced
from holerows.colours import a_colouring, first_coloured, is_colouring, judge_colours, lower_spread
from holerows.errors import BadCounts, BadFamily, NotFit, TooGreat
from holerows.families import counts_of, faces_of
from holerows.productrows import counts_of_h
from holerows.sound import is_sound
from plain import (
    FIELDS, FOLDED, NO_INTEGERS, PARTS, Raises, all_sets, error_of, families_of, has_plain_colouring,
    is_plain_counts, is_plain_family, many_families, plain_faces, plain_facets, plain_h, plain_low_holes,
    points_number, spoiled, wrong_families,
)

GREAT = 10 ** 30
SMALL = [()] + [family for n in range(1, 5) for family in families_of(n)]


def plain_certificates(counts):
    """All certificates for counts, as the document words them."""
    h = plain_h(counts)
    d = len(counts)
    below = [("below", j) for j in range(d + 1) if h[j] < 0]
    if below:
        return below
    return [("size", k) for k in range(1, d) if lower_spread(h[k + 1], k + 1, d) > h[k]] or [("fits", h)]


def is_among(thing, rights):
    """repr tells bools from integers and lists from tuples."""
    return repr(thing) in [repr(right) for right in rights]


def plain_first_balanced(counts):
    d = len(counts)
    h = plain_h(counts)
    told = tuple(many for many in h[1:] if many)
    inner = first_coloured(told, d)
    facets = []
    for size in range(len(told) + 1):
        for face in faces_of(inner, size):
            facet = {i + d for i in face} | (set(range(d)) - {i % d for i in face})
            facets.append(tuple(sorted(facet)))
    return tuple(sorted(facets))


def rows_h(d, greatest, chance, many):
    """Rows h of facets of d points for which lower numbers fit, picked by a seeded chance."""
    for _ in range(many):
        h = [1, chance.randint(0, greatest)]
        for k in range(1, d):
            most = chance.choice([0, 1, 2, 5, greatest])
            while lower_spread(most, k + 1, d) > h[k]:
                most -= 1
            h.append(most)
        yield tuple(h[:d + 1])


class FullFamilies(unittest.TestCase):

    def test_by_a_look_at_all_sets(self):
        for family in many_families():
            faces = plain_faces(family)
            points = frozenset().union(*faces)
            full = {part for part in all_sets(points)
                    if all(frozenset(pair) in faces for pair in combinations(part, 2))}
            told = full_family(family)
            self.assertEqual(told, plain_facets(full), family)
            self.assertEqual(full_family(family=family), told)
            self.assertEqual(full_family(told), told)

    def test_their_counts_are_those_of_coloured_families(self):
        for family in many_families():
            counts = counts_of(full_family(family))
            if counts:
                self.assertEqual(judge_colours(counts, len(counts))[0], "fits")

    def test_one_that_has_no_such_colouring(self):
        ring = ((0, 1), (0, 4), (1, 2), (2, 3), (3, 4))
        self.assertEqual(full_family(ring), ring)
        self.assertIsNone(a_colouring(ring, 2))
        self.assertEqual(judge_colours((5, 5), 2)[0], "fits")

    def test_edges(self):
        lone = tuple((point,) for point in range(9))
        self.assertEqual([full_family(()), full_family(((0,),)), full_family(lone)], [(), ((0,),), lone])
        self.assertEqual(full_family(tuple(combinations(range(9), 2))), (tuple(range(9)),))
        self.assertEqual(full_family(((0, 1, 2), (0, 3), (1, 3))), ((0, 1, 2), (0, 1, 3)))
        self.assertEqual(full_family(FOLDED), (tuple(range(6)),))


class Certificates(unittest.TestCase):

    def check(self, counts):
        rights = plain_certificates(counts)
        told = judge_balanced(counts)
        self.assertTrue(is_among(told, rights), (counts, told))
        self.assertEqual(repr(judge_balanced(counts=counts)), repr(told))
        for right in rights:
            self.assertIs(balanced_hold(counts, right), True)
            self.assertIs(balanced_hold(thing=right, counts=counts), True)
        for thing in product(("fits", "below", "size", "degree"), range(-1, len(counts) + 2)):
            self.assertIs(balanced_hold(counts, thing), thing in rights, (counts, thing))
        return told[0]

    def test_all_small_counts(self):
        kinds = set()
        for length in range(4):
            for counts in product(range(1, 9), repeat=length):
                kinds.add(self.check(counts))
        self.assertEqual(kinds, {"fits", "below", "size"})

    def test_just_the_counts_of_balanced_families(self):
        told = set()
        for family in SMALL:
            d = max(map(len, family), default=0)
            if not plain_low_holes(family, 2) and has_plain_colouring(family, d):
                told.add(counts_of(family))
        for length in range(5):
            for counts in product(range(1, 7), repeat=length):
                if counts[:1] <= (4,):
                    self.assertEqual(judge_balanced(counts)[0] == "fits", counts in told, counts)

    def test_great_counts(self):
        chance = random.Random(87)
        for d in range(1, 9):
            for many in (1, 2, 10 ** 3, 10 ** 10):
                # All choices of one letter, or none, for each colour have the greatest rows.
                h = tuple(comb(d, k) * many ** k for k in range(d + 1))
                for length in range(d + 1):
                    row = h[:length + 1] + (0,) * (d - length)
                    self.assertEqual(judge_balanced(counts_of_h(row)), ("fits", row))
                    if length > 1:
                        more = h[:length] + (h[length] + 1,) + (0,) * (d - length)
                        self.assertEqual(self.check(counts_of_h(more)), "size")
                        self.assertIs(balanced_hold(counts_of_h(more), ("size", length - 1)), True)
            for row in rows_h(d, 12, chance, 6):
                self.assertEqual(self.check(counts_of_h(row)), "fits")
        self.assertEqual(self.check((GREAT,) * 8), "below")
        self.assertEqual(self.check((GREAT,)), "fits")

    def test_edges(self):
        self.assertEqual([judge_balanced(()), judge_balanced((1,)), judge_balanced((7,))],
                         [("fits", (1,)), ("fits", (1, 0)), ("fits", (1, 6))])
        self.assertEqual(plain_h((3, 3, 2)), (1, 0, 0, 1))
        self.assertEqual(plain_certificates((3, 3, 2)), [("size", 2)])
        self.assertEqual(self.check((3, 3, 2)), "size")
        self.assertEqual(plain_h((3, 4)), (1, 1, 2))
        self.assertEqual(self.check((3, 4)), "size")
        self.assertEqual(plain_certificates((6, 4, 1)), [("below", 2)])
        self.assertEqual(self.check((6, 4, 1)), "below")
        self.assertEqual(plain_certificates((1, 1, 1, 1, 1)), [("below", 1), ("below", 3)])
        self.assertEqual(self.check((1, 1, 1, 1, 1)), "below")
        # Zeros behind are left as they are, one between is told.
        self.assertEqual(judge_balanced(counts_of_h((1, 3, 0, 0))), ("fits", (1, 3, 0, 0)))
        self.assertEqual(plain_certificates(counts_of_h((1, 3, 0, 1, 0))), [("size", 2)])
        self.assertEqual(self.check(counts_of_h((1, 3, 0, 1, 0))), "size")
        self.assertEqual(plain_certificates(counts_of_h((1, 1, 2, 9))), [("size", 1), ("size", 2)])
        self.assertEqual(self.check(counts_of_h((1, 1, 2, 9))), "size")

    def test_certificates_with_a_change(self):
        for counts in ((), (1,), (4, 4), (3, 3), (3, 1), (3, 3, 2), (1, 1, 1, 1, 1), (6, 12, 8)):
            rights = plain_certificates(counts)
            things = [("fits",), ("fits", ()), ("fits", (1,)), ("below", True), ("size", True), "size", ["size", 1]]
            things.extend(NO_INTEGERS + PARTS)
            for right in rights + [("below", 2), ("size", 1)]:
                things.extend(spoiled(right))
            for thing in things:
                self.assertIs(balanced_hold(counts, thing), is_among(thing, rights), (counts, thing))


class FirstBalancedFamilies(unittest.TestCase, Raises):

    def check(self, counts):
        family = first_balanced(counts)
        d = len(counts)
        self.assertTrue(is_plain_family(family), counts)
        self.assertEqual(family, plain_first_balanced(counts) if d else ())
        self.assertEqual(first_balanced(counts=counts), family)
        self.assertEqual(counts_of(family), counts)
        if d:
            # Below d each point is its own colour, above it has that of the point that it comes from.
            colours = tuple(i % d for i in range(points_number(family)))
            self.assertIs(is_colouring(family, d, colours), True)
            self.assertIsNotNone(a_colouring(family, d))
        if points_number(family) < 7:
            for p in FIELDS:
                self.assertIs(is_sound(family, p), True)

    def test_all_small_counts(self):
        many = 0
        for length in range(5):
            for counts in product(range(1, 12 if length < 3 else 7), repeat=length):
                if counts[:1] > (9,) or counts[:1] < (length,) and length:
                    continue
                if plain_certificates(counts)[0][0] == "fits":
                    self.check(counts)
                    many += 1
                else:
                    error = error_of(first_balanced, counts)
                    self.assertIs(type(error), NotFit)
                    self.assertTrue(is_among(error.certificate, plain_certificates(counts)))
                    self.assertIs(balanced_hold(counts, error.certificate), True)
        self.assertGreater(many, 30)

    def test_rows_h_of_up_to_nine_points(self):
        chance = random.Random(75)
        for d in range(1, 10):
            for row in rows_h(d, 9 - d, chance, 6):
                self.check(counts_of_h(row))

    def test_edges(self):
        self.assertEqual([first_balanced(()), first_balanced((1,)), first_balanced((3, 3, 1))],
                         [(), ((0,),), ((0, 1, 2),)])
        self.assertEqual(first_balanced((9,)), tuple((point,) for point in range(9)))
        self.assertEqual(first_balanced((9, 20)), tuple(sorted(
            (min(i, j), max(i, j)) for i in range(0, 9, 2) for j in range(1, 9, 2))))
        self.assertEqual(len(first_balanced((6, 12, 8))), 8)
        for counts in ((10,), (GREAT,), (10, 9), (10, 25)):
            self.assert_raises_with(TooGreat, "points", counts[0], first_balanced, counts)
        # What does not fit is told ahead of too many points.
        for counts in ((10, 8), (GREAT, 1), (10, 26)):
            self.assertIs(type(error_of(first_balanced, counts)), NotFit)


class WrongInputs(unittest.TestCase, Raises):

    def test_families(self):
        for thing in wrong_families():
            self.assert_bad(BadFamily, thing, full_family, thing)
            self.assert_bad(BadFamily, thing, full_family, family=thing)

    def test_counts(self):
        wrong = NO_INTEGERS + PARTS + ((1,) * 17, (1, 0), (4, True), [4, 5]) + tuple(spoiled((4, 5, 1)))
        for thing in wrong:
            if not is_plain_counts(thing):
                for call in (judge_balanced, first_balanced):
                    self.assert_bad(BadCounts, thing, call, thing)
                    self.assert_bad(BadCounts, thing, call, counts=thing)
                self.assert_bad(BadCounts, thing, balanced_hold, thing, ("below", 1))


if __name__ == "__main__":
    unittest.main()
