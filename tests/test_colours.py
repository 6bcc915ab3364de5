"""Promises [9.1] to [9.3], and holerows/colours.py."""

import random
import unittest
from itertools import combinations, product
from math import comb

from holerows.colours import (
    a_colouring, colours_hold, first_coloured, is_colouring, judge_colours, lower_spread, spread_cascade,
)
from holerows.errors import BadColours, BadCounts, BadFamily, BadNumber, BadSize, NotFit, TooGreat
from holerows.families import counts_of
from plain import (
    NO_INTEGERS, NO_SIZES, NO_WHOLES, PARTS, Raises, error_of, families_of, has_plain_colouring, is_plain_colouring,
    is_plain_counts, is_plain_family, many_families, plain_facets, plain_listing, points_number, some_families,
    some_family, spoiled, wrong_families,
)

GREAT = 10 ** 30
SMALL = [()] + [family for n in range(1, 5) for family in families_of(n)]


def plain_spread(points, size, r):
    """The spread sets of a size of the first points, in their order."""
    listing = plain_listing(points, size)
    return [part for part in listing if len({point % r for point in part}) == size]


def plain_t(m, s, r):
    """T by choices of remainders: each is left by so many of the points."""
    lots = [len(range(i, m, r)) for i in range(r)]
    total = 0
    for chosen in combinations(lots, s):
        some = 1
        for many in chosen:
            some *= many
        total += some
    return total


def plain_cascade(number, size, r):
    """The spread cascade by steps upward, for few sets."""
    tops = []
    while number:
        a = 0
        while plain_t(a + 1, size, r) <= number:
            a += 1
        tops.append(a)
        number -= plain_t(a, size, r)
        size, r = size - 1, r - 1
    return tuple(tops)


def plain_certificates(counts, r):
    """All certificates for counts and colours, as the document words them."""
    wrong = []
    lowers = []
    for k in range(1, len(counts)):
        if k >= r:
            wrong.append(("size", k))
            continue
        lowers.append(lower_spread(counts[k], k + 1, r))
        if lowers[-1] > counts[k - 1]:
            wrong.append(("size", k))
    return wrong or [("fits", tuple(lowers))]


def is_among(thing, rights):
    """repr tells bools from integers and lists from tuples."""
    return repr(thing) in [repr(right) for right in rights]


class SpreadSets(unittest.TestCase):

    def test_lower_numbers_count_what_lies_within_first_sets(self):
        for r in range(1, 6):
            for size in range(1, r + 1):
                seen = set()
                for many, points in enumerate(plain_spread(9, size, r)):
                    self.assertEqual(lower_spread(many, size, r), len(seen), (many, size, r))
                    seen.update(combinations(points, size - 1))
                self.assertEqual(lower_spread(size=size, r=r, number=2), len(set().union(*[
                    combinations(points, size - 1) for points in plain_spread(9, size, r)[:2]])))

    def test_what_lies_within_first_sets_comes_first(self):
        for r in range(1, 6):
            for size in range(2, r + 1):
                listing = plain_spread(8, size, r)
                for many in range(len(listing) + 1):
                    seen = {part for points in listing[:many] for part in combinations(points, size - 1)}
                    told = plain_spread(8, size - 1, r)[:lower_spread(many, size, r)]
                    self.assertEqual(seen, set(told))

    def test_no_sets_with_colours_have_fewer_within_them(self):
        chance = random.Random(98)
        for _ in range(400):
            r = chance.randint(1, 4)
            colours = [chance.randrange(r) for _ in range(8)]
            size = chance.randint(1, r)
            sets = [points for points in combinations(range(8), size)
                    if len({colours[point] for point in points}) == size]
            some = chance.sample(sets, chance.randint(0, len(sets)))
            within = {part for points in some for part in combinations(points, size - 1)}
            self.assertLessEqual(lower_spread(len(some), size, r), len(within))

    def test_plain_numbers_of_spread_sets(self):
        for r in range(1, 6):
            for size in range(r + 1):
                for points in range(9):
                    self.assertEqual(plain_t(points, size, r), len(plain_spread(points, size, r)))

    def test_cascades_by_steps(self):
        for r in range(1, 9):
            for size in range(1, r + 1):
                for number in list(range(30)) + [100, 257]:
                    if size > 1 or number < 101:
                        told = spread_cascade(number, size, r)
                        self.assertEqual(told, plain_cascade(number, size, r), (number, size, r))
                        lower = sum(plain_t(a, size - at - 1, r - at) for at, a in enumerate(told))
                        self.assertEqual(lower_spread(number, size, r), lower)

    def test_numbers_of_thirty_digits(self):
        chance = random.Random(30)
        for r in range(1, 9):
            for size in range(1, r + 1):
                numbers = [GREAT, GREAT - 1] + [chance.randrange(10 ** chance.randint(1, 30)) for _ in range(4)]
                for number in numbers:
                    told = spread_cascade(number, size, r)
                    self.assertEqual(spread_cascade(r=r, number=number, size=size), told)
                    rest = number
                    for at, a in enumerate(told):
                        self.assertLessEqual(great_t(a, size - at, r - at), rest)
                        self.assertGreater(great_t(a + 1, size - at, r - at), rest)
                        rest -= great_t(a, size - at, r - at)
                    self.assertEqual(rest, 0)
                    self.assertLessEqual(len(told), size)
                    lower = sum(great_t(a, size - at - 1, r - at) for at, a in enumerate(told))
                    self.assertEqual(lower_spread(number, size, r), lower)

    def test_edges(self):
        self.assertEqual([spread_cascade(0, 1, 1), spread_cascade(0, 8, 8), lower_spread(0, 8, 8)], [(), (), 0])
        self.assertEqual([spread_cascade(GREAT, 1, 1), lower_spread(GREAT, 1, 1)], [(GREAT,), 1])
        self.assertEqual([spread_cascade(GREAT, 1, 8), lower_spread(GREAT, 1, 8)], [(GREAT,), 1])
        for size in range(1, 9):
            for r in range(size, 9):
                self.assertEqual(spread_cascade(1, size, r), (size,))
                self.assertEqual(lower_spread(1, size, r), size)
        # With as many colours as the size the sets are choices of one point for each remainder.
        self.assertEqual([spread_cascade(16, 4, 4), lower_spread(16, 4, 4)], [(8,), 32])
        self.assertEqual(spread_cascade(17, 4, 4), (8, 3))
        self.assertEqual(spread_cascade(8, 2, 2), (5, 2))
        self.assertEqual(spread_cascade(11, 2, 2), (6, 2))
        self.assertEqual(spread_cascade(5, 3, 3), (5, 2))
        self.assertEqual(spread_cascade(3, 3, 3), (4, 2))


def great_t(m, s, r):
    """T for great numbers: the polynomial with one factor for each remainder."""
    coefficients = [1] + [0] * s
    for i in range(r):
        many = (m + r - 1 - i) // r
        coefficients = [coefficients[k] + (many * coefficients[k - 1] if k else 0) for k in range(s + 1)]
    return coefficients[s]


class Certificates(unittest.TestCase):

    def check(self, counts, r):
        rights = plain_certificates(counts, r)
        told = judge_colours(counts, r)
        self.assertTrue(is_among(told, rights), (counts, r, told))
        self.assertEqual(repr(judge_colours(r=r, counts=counts)), repr(told))
        for right in rights:
            self.assertIs(colours_hold(counts, r, right), True)
            self.assertIs(colours_hold(thing=right, r=r, counts=counts), True)
        for k in range(-1, len(counts) + 2):
            for thing in (("size", k), ("fits", k), ("colours", k)):
                self.assertIs(colours_hold(counts, r, thing), thing in rights, (counts, r, thing))
        return told[0]

    def test_all_small_counts(self):
        kinds = set()
        for length in range(4):
            for counts in product(range(1, 8), repeat=length):
                for r in (1, 2, 3, 4):
                    kinds.add(self.check(counts, r))
        self.assertEqual(kinds, {"fits", "size"})

    def test_just_the_counts_of_coloured_families(self):
        for r in (1, 2, 3, 4):
            told = {counts_of(family) for family in SMALL if has_plain_colouring(family, r)}
            for length in range(5):
                for counts in product(range(1, 7), repeat=length):
                    if counts[:1] <= (4,):
                        right = counts in told
                        self.assertEqual(judge_colours(counts, r)[0] == "fits", right, (counts, r))

    def test_the_counts_of_coloured_families_fit(self):
        chance = random.Random(97)
        for _ in range(120):
            n, r = chance.randint(2, 9), chance.randint(1, 4)
            colours = [chance.randrange(r) for _ in range(n)]
            spread = [points for size in range(1, r + 1) for points in combinations(range(n), size)
                      if len({colours[point] for point in points}) == size]
            some = chance.sample(spread, chance.randint(0, min(len(spread), 12)))
            faces = {frozenset(part) for points in some for size in range(1, len(points) + 1)
                     for part in combinations(points, size)} | {frozenset({point}) for point in range(n)}
            family = plain_facets(faces)
            self.assertTrue(is_plain_colouring(family, r, tuple(colours)))
            self.assertEqual(self.check(counts_of(family), r), "fits")

    def test_great_counts(self):
        for r in range(1, 9):
            for many in (1, 2, 10 ** 15, GREAT):
                for length in range(1, r + 1):
                    top = r * many
                    counts = tuple(comb(r, k) * many ** k for k in range(1, length + 1))
                    self.assertEqual(counts, tuple(great_t(top, k, r) for k in range(1, length + 1)))
                    if counts[-1] <= GREAT:
                        self.assertEqual(judge_colours(counts, r), ("fits", counts[:-1]))
                        if length > 1:
                            more = counts[:-1] + (counts[-1] + 1,)
                            self.assertEqual(judge_colours(more, r), ("size", length - 1))
        self.assertEqual(self.check((GREAT,) * 16, 8), "size")
        self.assertEqual(self.check((GREAT,) * 8, 8), "fits")

    def test_edges(self):
        for r in range(1, 9):
            self.assertEqual([judge_colours((), r), judge_colours((1,), r)], [("fits", ())] * 2)
            whole = tuple(comb(r, k) for k in range(1, r + 1))
            self.assertEqual(judge_colours(whole, r), ("fits", whole[:-1]))
            self.assertEqual(plain_certificates(whole + (1,), r)[-1], ("size", r))
            self.assertEqual(self.check(whole + (1,), r), "size")
        self.assertEqual(plain_certificates((3, 3, 1), 1), [("size", 1), ("size", 2)])
        self.assertEqual(plain_certificates((9, 9, 9, 1), 2), [("size", 2), ("size", 3)])
        self.assertIs(colours_hold((9, 9, 9, 1), 2, ("size", 1)), False)
        self.assertEqual(judge_colours((GREAT,), 1), ("fits", ()))

    def test_certificates_with_a_change(self):
        for counts, r in (((), 1), ((5,), 1), ((3, 3), 2), ((4, 4), 2), ((3, 3, 1), 2), ((6, 12, 8), 3), ((5, 9, 9), 3)):
            rights = plain_certificates(counts, r)
            things = [("fits",), ("fits", ()), ("size", True), "size", ["size", 1], ("size", 1, 1), ("fits", [4])]
            things.extend(NO_WHOLES + PARTS)
            for right in rights + [("size", 1), ("fits", (4,))]:
                things.extend(spoiled(right))
            for thing in things:
                self.assertIs(colours_hold(counts, r, thing), is_among(thing, rights), (counts, r, thing))


class FirstColouredFamilies(unittest.TestCase, Raises):

    def check(self, counts, r):
        family = first_coloured(counts, r)
        self.assertTrue(is_plain_family(family), (counts, r))
        self.assertEqual(first_coloured(r=r, counts=counts), family)
        faces = {frozenset(points) for k, many in enumerate(counts) for points in plain_spread(9, k + 1, r)[:many]}
        self.assertEqual(family, plain_facets(faces | {frozenset()}), (counts, r))
        self.assertEqual(counts_of(family), counts)
        self.assertIs(is_colouring(family, r, tuple(i % r for i in range(points_number(family)))), True)

    def test_all_small_counts(self):
        many = 0
        for length in range(4):
            for counts in product(range(1, 8), repeat=length):
                for r in (1, 2, 3, 5):
                    if plain_certificates(counts, r)[0][0] == "fits":
                        self.check(counts, r)
                        many += 1
                    else:
                        error = error_of(first_coloured, counts, r)
                        self.assertIs(type(error), NotFit)
                        self.assertTrue(is_among(error.certificate, plain_certificates(counts, r)))
                        self.assertIs(colours_hold(counts, r, error.certificate), True)
        self.assertGreater(many, 60)

    def test_up_to_nine_points_and_eight_colours(self):
        chance = random.Random(8)
        for r in range(1, 9):
            for n in (1, r, 8, 9):
                counts = tuple(plain_t(n, k, r) for k in range(1, min(n, r) + 1))
                self.check(counts, r)
                for _ in range(3):
                    some = [n]
                    for k in range(2, min(n, r) + 1):
                        lots = [many for many in range(1, plain_t(n, k, r) + 1) if lower_spread(many, k, r) <= some[-1]]
                        if lots:
                            some.append(chance.choice(lots))
                        else:
                            break
                    self.check(tuple(some), r)

    def test_edges(self):
        self.assertEqual([first_coloured((), 1), first_coloured((), 8), first_coloured((1,), 1)], [(), (), ((0,),)])
        self.assertEqual(first_coloured((9,), 1), tuple((point,) for point in range(9)))
        self.assertEqual(first_coloured((9, 1), 8), ((0, 1),) + tuple((point,) for point in range(2, 9)))
        for counts, r in (((10,), 1), ((GREAT,), 8), ((10, 3), 2), ((GREAT, GREAT, 1), 3)):
            self.assert_raises_with(TooGreat, "points", counts[0], first_coloured, counts, r)
        # What does not fit is told ahead of too many points.
        for counts, r in (((10, 3), 1), ((10, 26), 2), ((GREAT, 1, 1), 2)):
            self.assertIs(type(error_of(first_coloured, counts, r)), NotFit)


class Colourings(unittest.TestCase):

    def test_all_choices_of_colours(self):
        for family in SMALL[::3]:
            for r in (1, 2, 3):
                for colours in product(range(-1, r + 1), repeat=points_number(family)):
                    right = is_plain_colouring(family, r, colours)
                    self.assertIs(is_colouring(family, r, colours), right, (family, r, colours))

    def test_a_colouring_just_if_there_is_one(self):
        chance = random.Random(91)
        families = SMALL[::2] + [some_family(chance, n, many, 3) for n in (5, 6) for many in (4, 7, 10)]
        for family in families:
            for r in (1, 2, 3, 4):
                told = a_colouring(family, r)
                if has_plain_colouring(family, r):
                    self.assertTrue(is_plain_colouring(family, r, told), (family, r, told))
                    self.assertIs(is_colouring(family, r, told), True)
                else:
                    self.assertIsNone(told, (family, r))

    def test_many_points(self):
        """With points grouped so that no two of a lot make a face: the fewest lots are the fewest colours."""
        for family in some_families():
            n = points_number(family)
            fewest = plain_fewest_colours(family)
            for r in range(1, 9):
                told = a_colouring(r=r, family=family)
                if r < fewest:
                    self.assertIsNone(told, (family, r))
                else:
                    self.assertTrue(is_plain_colouring(family, r, told), (family, r))
                    self.assertEqual(len(told), n)

    def test_edges(self):
        self.assertEqual([a_colouring((), 1), is_colouring((), 1, ()), is_colouring((), 1, (0,))], [(), True, False])
        self.assertEqual(a_colouring(((0,), (1,)), 1), (0, 0))
        self.assertIs(is_colouring(thing=(7, 0), r=8, family=((0, 1),)), True)
        self.assertIs(is_colouring(((0, 1),), 8, (8, 0)), False)
        whole = (tuple(range(9)),)
        self.assertEqual([a_colouring(whole, 8), sorted(a_colouring(whole, 9))], [None, list(range(9))])
        # A ring of five points needs three colours, one of six just two.
        ring = ((0, 1), (0, 4), (1, 2), (2, 3), (3, 4))
        self.assertEqual([a_colouring(ring, 2), len(set(a_colouring(ring, 3)))], [None, 3])
        # Here the first point and the last one must have unlike colours, the middle ones decide late.
        path = ((0, 3), (1, 2), (2, 3))
        self.assertIs(is_colouring(path, 2, a_colouring(path, 2)), True)

    def test_things_with_a_change(self):
        for family, r, right in ((((0, 1), (1, 2)), 2, (0, 1, 0)), (((0,),), 1, (0,)), (((0, 1, 2),), 3, (2, 0, 1)), ((), 2, ())):
            self.assertIs(is_colouring(family, r, right), True)
            for thing in list(NO_INTEGERS + PARTS) + list(spoiled(right)):
                self.assertIs(is_colouring(family, r, thing), is_plain_colouring(family, r, thing), (family, thing))


def plain_fewest_colours(family):
    """The fewest colours, by the fewest sets without edges that have all points."""
    n = points_number(family)
    edges = {pair for facet in family for pair in combinations(facet, 2)}
    free = [sum(1 << point for point in points) for size in range(1, n + 1) for points in combinations(range(n), size)
            if not any(pair in edges for pair in combinations(points, 2))]
    reached = {0}
    many = 0
    while 2 ** n - 1 not in reached:
        reached = {mask | other for mask in reached for other in free}
        many += 1
    return many


class WrongInputs(unittest.TestCase, Raises):

    def test_numbers_sizes_and_colours_of_spread_sets(self):
        for call in (lower_spread, spread_cascade):
            for wrong in NO_WHOLES:
                for size, r in ((2, 3), (0, 3), (None, 0), (3, 2)):
                    self.assert_bad(BadNumber, wrong, call, wrong, size, r)
            for wrong in NO_SIZES:
                for r in (3, 0, None):
                    self.assert_bad(BadSize, wrong, call, 5, wrong, r)
                    self.assert_bad(BadSize, wrong, call, r=r, size=wrong, number=0)
                self.assert_bad(BadColours, wrong, call, 5, 2, wrong)
                self.assert_bad(BadColours, wrong, call, 0, 1, wrong)
            for size in (2, 5, 8, 10 ** 39):
                for r in range(1, min(size, 9)):
                    for number in (0, 1, GREAT):
                        self.assert_bad(BadColours, r, call, number, size, r)
                        self.assert_bad(BadColours, r, call, r=r, size=size, number=number)

    def test_counts(self):
        wrong = NO_INTEGERS + PARTS + ((1,) * 17, (1, 0), (4, True), [4, 5]) + tuple(spoiled((4, 5, 1)))
        for thing in wrong:
            if not is_plain_counts(thing):
                for r in (2, 0, None):
                    for call in (judge_colours, first_coloured):
                        self.assert_bad(BadCounts, thing, call, thing, r)
                    self.assert_bad(BadCounts, thing, colours_hold, thing, r, ("size", 1))
                self.assert_bad(BadCounts, thing, first_coloured, r=None, counts=thing)

    def test_colours(self):
        for wrong in NO_SIZES:
            for counts in ((), (3, 3), (10,), (1,) * 16):
                for call in (judge_colours, first_coloured):
                    self.assert_bad(BadColours, wrong, call, counts, wrong)
                self.assert_bad(BadColours, wrong, colours_hold, counts, wrong, ("size", 1))
                self.assert_bad(BadColours, wrong, judge_colours, r=wrong, counts=counts)
            for family in ((), ((0, 1), (2,))):
                self.assert_bad(BadColours, wrong, a_colouring, family, wrong)
                self.assert_bad(BadColours, wrong, is_colouring, family, wrong, (0, 1, 0))
                self.assert_bad(BadColours, wrong, is_colouring, thing=None, r=wrong, family=family)

    def test_families(self):
        for thing in wrong_families():
            for r in (2, 0, None):
                self.assert_bad(BadFamily, thing, a_colouring, thing, r)
                self.assert_bad(BadFamily, thing, is_colouring, thing, r, ())
            self.assert_bad(BadFamily, thing, a_colouring, r=True, family=thing)


class AllFamilies(unittest.TestCase):

    def test_told_colourings_have_few_colours(self):
        for family in many_families():
            told = a_colouring(family, 9)
            self.assertTrue(is_plain_colouring(family, 9, told))


if __name__ == "__main__":
    unittest.main()
