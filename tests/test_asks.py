"""Promises [11.1] and [11.2], and holerows/asks.py."""

import random
import unittest
from itertools import combinations, product

from holerows.asks import answers, ends_of, is_answer, is_ask, sum_number
from holerows.cascades import upper_products, upper_sets
from holerows.colours import first_coloured, judge_colours
from holerows.errors import BadAsk, BadNumber, TooMany
from holerows.families import counts_of
from holerows.firsts import is_counts, judge_counts
from holerows.holes import holes_of
from holerows.productrows import judge_row
from holerows.rows import judge_rows
from holerows.sound import judge_sound_counts, pure_first
from holerows.spheres import first_sphere, judge_sphere, least_sphere, most_sphere
from plain import (
    NO_INTEGERS, NO_WHOLES, PARTS, SHOP, Raises, deep, error_of, is_plain_integer, many_families, spoiled,
)

GREAT = 10 ** 30
WORDS = ("sets", "sound", "spheres", "coloured", "products", "holes")


def rows_in(ask):
    return ask[2:] if ask[0] == "coloured" else ask[1:]


def is_plain_gap_row(thing):
    if type(thing) is not tuple or not 1 <= len(thing) <= 16:
        return False
    return all(item is None or is_plain_integer(item, 0) for item in thing)


def is_plain_ask(thing):
    if type(thing) is not tuple or not thing or type(thing[0]) is not str or thing[0] not in WORDS:
        return False
    if len(thing) != {"coloured": 3, "holes": 3}.get(thing[0], 2):
        return False
    if thing[0] == "coloured" and not (is_plain_integer(thing[1], 1) and thing[1] < 9):
        return False
    rows = rows_in(thing)
    if not all(is_plain_gap_row(row) for row in rows) or len(set(map(len, rows))) > 1:
        return False
    if thing[0] == "products" and rows[0][0] != 1:
        return False
    return sum(item is None for row in rows for item in row) in (1, 2)


def gaps_in(ask):
    return sum(item is None for row in rows_in(ask) for item in row)


def plain_filled(ask, numbers):
    numbers = iter(numbers)
    return [tuple(next(numbers) if item is None else item for item in row) for row in rows_in(ask)]


def is_plain_answer(ask, numbers):
    """By the judges of the other files."""
    rows = plain_filled(ask, numbers)
    if ask[0] == "products":
        return judge_row(rows[0])[0] == "fits"
    if not is_counts(rows[0]):
        return False
    if ask[0] == "coloured":
        return judge_colours(rows[0], ask[1])[0] == "fits"
    judge = {"sets": judge_counts, "sound": judge_sound_counts, "spheres": judge_sphere, "holes": judge_rows}[ask[0]]
    return judge(*rows)[0] == "fits"


def plain_answers(ask, greatest):
    lots = product(range(greatest + 1), repeat=gaps_in(ask))
    return tuple(numbers for numbers in lots if is_plain_answer(ask, numbers))


def with_gaps(ask, places):
    """The ask, or what is none yet, with gaps at places of its rows put one behind the other."""
    at = 0
    parts = list(ask)
    for k, row in enumerate(ask):
        if type(row) is tuple:
            parts[k] = tuple(None if at + i in places else item for i, item in enumerate(row))
            at += len(row)
    return tuple(parts)


def filled_asks():
    """Asks without gaps, of rows that fit and of such that just do not."""
    chance = random.Random(11)
    whole = [("sets", (4, 5, 2)), ("sets", (3,)), ("sets", (6, 9, 3, 1)), ("sets", (7, 0, 3)), ("sets", (2, 2, 2, 2, 2)),
             ("sound", (4, 5, 2)), ("sound", (5,)), ("sound", (6, 11, 6)), ("sound", (4, 6, 4, 1)), ("sound", (3, 0)),
             ("spheres", (2,)), ("spheres", (5, 5)), ("spheres", (5, 9, 6)), ("spheres", (6, 14, 16, 8)), ("spheres", (0, 4)),
             ("coloured", 1, (4,)), ("coloured", 2, (4, 4)), ("coloured", 3, (5, 8, 4)), ("coloured", 8, (5, 10, 10, 5, 1)),
             ("coloured", 2, (4, 4, 1)), ("products", (1, 2)), ("products", (1, 3, 6, 10)), ("products", (1, 3, 0, 0)),
             ("products", (1, 2, 3, 0, 1)), ("holes", (4, 5, 1), (0, 1, 0)), ("holes", (3,), (2,)),
             ("holes", (5, 7, 2), (1, 1, 0)), ("holes", (4, 6, 4), (0, 0, 1)), ("holes", (4, 0), (0, 0)),
             ("holes", (5, 6, 4), (1, 0, 1))]
    for family in chance.sample([family for family in many_families() if family], 12):
        counts = counts_of(family)
        whole += [("sets", counts), ("sound", counts), ("holes", counts, holes_of(family, 2))]
    return whole


def some_asks():
    """Asks with one gap and with two, at all places of short rows and some of long ones."""
    chance = random.Random(12)
    for ask in filled_asks():
        length = sum(len(row) for row in rows_in(ask))
        first = 1 if ask[0] == "products" else 0
        places = [(i,) for i in range(first, length)] + list(combinations(range(first, length), 2))
        for lot in places if len(places) < 12 else chance.sample(places, 12):
            yield with_gaps(ask, lot)


def great_rows(word):
    """Rows of up to sixteen integers of up to thirty digits that fit, some of them barely."""
    chance = random.Random(13)
    for digits in (1, 3, 12, 30):
        for length in (2, 3, 8, 16):
            for _ in range(3):
                row = [chance.randint(1, 10 ** digits)]
                while len(row) < length:
                    if word == "sets":
                        most = upper_sets(row[-1], len(row))
                    else:
                        most = upper_products(row[-1], len(row))
                    if most == 0:
                        break
                    row.append(chance.choice([min(most, GREAT), max(1, min(most, 10 ** digits) // 2)]))
                yield tuple(row) if word == "sets" else (1,) + tuple(row[:15])


class Asks(unittest.TestCase):

    def test_right_ones(self):
        for ask in some_asks():
            self.assertIs(is_ask(ask), True, ask)
            self.assertIs(is_ask(thing=ask), True)
        for ask in filled_asks():
            self.assertIs(is_ask(ask), False)

    def test_edges(self):
        for ask in (("sets", (None,)), ("sets", (None, None)), ("sets", (GREAT,) * 14 + (None,) * 2), ("products", (1, None)),
                    ("products", (1,) + (0,) * 13 + (None, None)), ("coloured", 1, (None,)), ("coloured", 8, (None, 0)),
                    ("holes", (None,), (None,)), ("holes", (0,) * 16, (None,) + (0,) * 15), ("spheres", (None, 0)),
                    ("holes", (1, None), (0, 0)), ("holes", (1, 1), (None, None))):
            self.assertIs(is_ask(ask), True, ask)
        for ask in (("sets", ()), ("sets", (None,) * 3), ("sets", (1,) * 16 + (None,)), ("sets", (1,)), ("sets", (None, -1)),
                    ("sets", [None]), ("sets", None), ("sets", (None, True)), ("sets", (None, "1")), ("sets",), ("sets", (None,), (1,)),
                    ("products", (None,)), ("products", (None, 1)), ("products", (2, None)), ("products", (True, None)),
                    ("products", (1,)), ("products", ()), ("products", (0, None)), ("products", (1,) * 16 + (None,)),
                    ("coloured", (None,)), ("coloured", 0, (None,)), ("coloured", 9, (None,)), ("coloured", True, (None,)),
                    ("coloured", None, (None,)), ("coloured", (None,), 2), ("coloured", 2), ("coloured", 2, (1,)),
                    ("holes", (None,)), ("holes", (None,), ()), ("holes", (None,), (1, 2)), ("holes", (None, None), (None, 1)),
                    ("holes", (None, None), (None, None)), ("holes", (1,), (1,)), ("holes", (), ()), ("holes", 1, (None,)),
                    ("holes", (None,), 1), ("holes", (None,), [1]), ("holes", (1,) * 17, (None,) * 17), ("Sets", (None,)),
                    ("", (None,)), (), ["sets", (None,)], "sets", (None, (None,)), (("sets",), (None,)), (0, (None,)),
                    (["sets"], (None,)), (SHOP, (None,)), ("sets", SHOP), ("sets", (None, SHOP)), ("sound", (None, None, None))):
            self.assertIs(is_ask(ask), False, ask)

    def test_things_with_a_change(self):
        for ask in (("sets", (4, None, 1)), ("sound", (None, 5)), ("spheres", (4, None)), ("coloured", 2, (4, None)),
                    ("products", (1, None, 2)), ("holes", (4, None), (0, None))):
            for thing in spoiled(ask):
                self.assertIs(is_ask(thing), is_plain_ask(thing), thing)
        for thing in NO_INTEGERS + PARTS:
            self.assertIs(is_ask(thing), is_plain_ask(thing))


class Answers(unittest.TestCase, Raises):

    def test_by_a_plain_look_at_all_numbers(self):
        met = {}
        for ask in some_asks():
            greatest = 40 if gaps_in(ask) == 1 else 9
            told = answers(ask, greatest)
            self.assertEqual(repr(told), repr(plain_answers(ask, greatest)), ask)
            met[ask[0], gaps_in(ask)] = met.get((ask[0], gaps_in(ask)), 0) + len(told)
        self.assertEqual(set(met), {(word, gaps) for word in WORDS for gaps in (1, 2)})
        self.assertGreater(min(met.values()), 3)

    def test_each_number_is_an_answer_or_not(self):
        for ask in list(some_asks())[::3]:
            right = set(answers(ask, 12))
            for numbers in product(range(-1, 13), repeat=gaps_in(ask)):
                self.assertIs(is_answer(ask, numbers), numbers in right, (ask, numbers))
        ask = ("holes", (4, None), (0, None))
        self.assertIs(is_answer(thing=(4, 1), ask=ask), True)

    def test_the_order_of_the_gaps(self):
        self.assertEqual(answers(("holes", (None, 4), (None, 1)), 9), ((4, 0), (5, 1), (6, 2), (7, 3), (8, 4), (9, 5)))
        self.assertEqual(answers(("holes", (4, 4), (None, None)), 9), ((0, 1),))
        self.assertEqual(answers(("holes", (None, None), (0, 1)), 6), ((3, 3), (4, 4), (5, 5), (6, 6)))
        self.assertEqual(answers(("sets", (None, None)), 3), ((2, 1), (3, 1), (3, 2), (3, 3)))
        self.assertEqual(answers(("coloured", 2, (None, 4)), 5), ((4,), (5,)))
        self.assertEqual(answers(("spheres", (6, None, None)), 20), ((12, 8),))
        self.assertEqual(answers(greatest=6, ask=("sets", (4, None, 1))), ((3,), (4,), (5,), (6,)))

    def test_great_limits(self):
        self.assertEqual(answers(("sets", (None,)), 60), tuple((n,) for n in range(1, 61)))
        self.assertEqual(answers(("sets", (None, 10000)), 60), ())
        self.assertEqual(answers(("sets", (10000, None)), 60), tuple((n,) for n in range(1, 61)))
        self.assertEqual(len(answers(("products", (1, None, None)), 20, most=441)), 21 ** 2 - sum(
            20 - n * (n + 1) // 2 for n in range(6)))
        for word in ("sets", "sound", "spheres"):
            ask = (word, (10000,) * 14 + (None, None))
            self.assertEqual(answers(ask, 20, most=441), plain_answers(ask, 20))
        ask = ("holes", (None,) + (10000,) * 15, (None,) + (10,) * 15)
        self.assertEqual(answers(ask, 20), plain_answers(ask, 20))

    def test_zeros(self):
        for ask in (("sets", (0, None)), ("sets", (None, 0)), ("sound", (None, 0)), ("spheres", (0, None)),
                    ("coloured", 3, (0, None, None)), ("holes", (0, None), (1, 0)), ("holes", (None, 0), (None, 0))):
            self.assertEqual(answers(ask, 20), ())
            self.assertIs(is_answer(ask, (1,) * gaps_in(ask)), False)
        for ask in (("sets", (None,)), ("sets", (3, None)), ("spheres", (None,)), ("coloured", 2, (2, None))):
            self.assertIs(is_answer(ask, (0,)), False)
        self.assertEqual(answers(("products", (1, 0, None)), 5), ((0,),))
        self.assertEqual(answers(("products", (1, None, 0)), 2), ((0,), (1,), (2,)))
        self.assertEqual(answers(("sets", (None,)), 0), ())
        self.assertEqual(answers(("holes", (1,), (None,)), 0), ((0,),))

    def test_the_most_just_met_and_passed(self):
        for ask, greatest in ((("sets", (4, None, 1)), 9), (("products", (1, None)), 9), (("sets", (0, None)), 9),
                              (("holes", (4, None), (0, None)), 6), (("sound", (None, None)), 6)):
            told = plain_answers(ask, greatest)
            self.assertEqual(answers(ask, greatest, most=len(told)), told)
            self.assertEqual(answers(most=len(told) + 1, greatest=greatest, ask=ask), told)
            for most in range(len(told)):
                self.assert_raises_with(TooMany, "most", most, answers, ask, greatest, most=most)
        self.assertEqual(len(answers(("sets", (None, None)), 16)), 195)
        self.assertEqual(len(answers(("products", (1, None, None)), 14, most=200)), 175)
        self.assert_raises_with(TooMany, "most", 200, answers, ("products", (1, None, None)), 20)
        told = plain_answers(("sets", (None, None)), 17)
        self.assertEqual(len(told), 222)
        self.assert_raises_with(TooMany, "most", 200, answers, ("sets", (None, None)), 17)
        self.assert_raises_with(TooMany, "most", 221, answers, ("sets", (None, None)), 17, most=221)
        self.assertEqual(answers(("sets", (None, None)), 17, most=222), told)

    def test_great_numbers_are_answers(self):
        self.assertIs(is_answer(("sets", (GREAT, None)), (GREAT * (GREAT - 1) // 2,)), True)
        self.assertIs(is_answer(("sets", (GREAT, None)), (GREAT * (GREAT - 1) // 2 + 1,)), False)
        self.assertIs(is_answer(("spheres", (None, GREAT)), (GREAT,)), True)
        self.assertIs(is_answer(("spheres", (None, GREAT)), (GREAT + 1,)), False)
        self.assertIs(is_answer(("holes", (GREAT, None), (0, None)), (GREAT - 1, 0)), True)
        for d in (3, 4, 7):
            for counts in (least_sphere(GREAT, d), most_sphere(GREAT, d)):
                self.assertIs(is_answer(("spheres", counts[:-1] + (None,)), counts[-1:]), True)
                self.assertIs(is_answer(("spheres", counts[:-1] + (None,)), (counts[-1] + 1,)), False)

    def test_rows_of_built_families(self):
        for word, counts in (("sound", counts_of(pure_first((4, 5, 2)))), ("spheres", counts_of(first_sphere((5, 9, 6))))):
            for i in range(len(counts)):
                self.assertIs(is_answer((word, counts[:i] + (None,) + counts[i + 1:]), counts[i:i + 1]), True)
        counts = counts_of(first_coloured((4, 4), 2))
        self.assertIs(is_answer(("coloured", 2, (counts[0], None)), (counts[1],)), True)
        self.assertIs(is_answer(("coloured", 2, (counts[0], None)), (counts[1] + 1,)), False)
        self.assertIs(is_answer(("coloured", 3, (counts[0], None)), (counts[1] + 1,)), True)

    def test_any_values(self):
        for ask, right in ((("sets", (4, None, 1)), (5,)), (("holes", (4, None), (0, None)), (4, 1))):
            self.assertIs(is_answer(ask, right), True)
            for thing in list(NO_INTEGERS + PARTS) + list(spoiled(right)):
                told = type(thing) is tuple and len(thing) == len(right) and all(is_plain_integer(n, 0) for n in thing)
                self.assertIs(is_answer(ask, thing), told and is_plain_answer(ask, thing), (ask, thing))


class OneGap(unittest.TestCase):

    def plain_sum(self, ask, number):
        counts, holes = plain_filled(ask, (number,))
        return sum((-1) ** k * (counts[k] - holes[k]) for k in range(len(counts)))

    def test_the_one_number_of_holes(self):
        below = 0
        for ask in some_asks():
            if ask[0] == "holes" and gaps_in(ask) == 1:
                told = sum_number(ask)
                self.assertIs(type(told), int)
                self.assertEqual(sum_number(ask=ask), told)
                self.assertEqual([n for n in range(-99, 99) if self.plain_sum(ask, n) == 1], [told], ask)
                self.assertEqual(answers(ask, 60), ((told,),) if told >= 0 and is_plain_answer(ask, (told,)) else ())
                below += told < 0
        for counts, holes in ((1, 5), (2, 9), (7, 1)):
            self.assertEqual(sum_number(("holes", (None,), (holes,))), holes + 1)
            self.assertEqual(sum_number(("holes", (counts,), (None,))), counts - 1)
        self.assertEqual(sum_number(("holes", (0,), (None,))), -1)
        self.assertEqual(sum_number(("holes", (1, None), (0, 0))), 0)
        self.assertEqual(sum_number(("holes", (1, None), (5, 0))), -5)
        self.assertEqual(sum_number(("holes", (9, 2), (0, None))), -6)

    def test_one_number_of_great_rows(self):
        chance = random.Random(14)
        for length in (1, 2, 7, 16):
            for _ in range(8):
                whole = ("holes",) + tuple(tuple(chance.randrange(GREAT) for _ in range(length)) for _ in range(2))
                ask = with_gaps(whole, (chance.randrange(2 * length),))
                self.assertEqual(self.plain_sum(ask, sum_number(ask)), 1)

    def check_ends(self, ask):
        ends = ends_of(ask)
        self.assertEqual(ends_of(ask=ask), ends)
        if ends is None:
            return ends
        self.assertIs(type(ends), tuple)
        least, greatest = ends
        self.assertIs(is_answer(ask, (least,)), True, (ask, ends))
        self.assertIs(is_answer(ask, (least - 1,)), False, (ask, ends))
        if greatest is None:
            for more in (1, 1000, GREAT * GREAT):
                self.assertIs(is_answer(ask, (least + more,)), True, (ask, ends))
        else:
            self.assertIs(is_answer(ask, (greatest,)), True, (ask, ends))
            self.assertIs(is_answer(ask, (greatest + 1,)), False, (ask, ends))
            self.assertIs(is_answer(ask, ((least + greatest) // 2,)), True)
        return ends

    def test_ends_of_small_rows(self):
        kinds = set()
        rows = [("sets", row) for length in (1, 2, 3) for row in product(range(5), repeat=length)]
        rows += [("products", (1,) + row) for length in (1, 2, 3) for row in product(range(4), repeat=length)]
        rows += [ask for ask in filled_asks() if ask[0] in ("sets", "products")]
        for whole in rows:
            for i in range(whole[0] == "products", len(whole[1])):
                ask = with_gaps(whole, (i,))
                ends = self.check_ends(ask)
                told = answers(ask, 60)
                if ends is None:
                    self.assertEqual(told, (), ask)
                else:
                    least, greatest = ends
                    greatest = 60 if greatest is None else min(greatest, 60)
                    self.assertEqual(told, tuple((n,) for n in range(least, greatest + 1)), ask)
                    self.assertEqual(ends[1] is None, i == (whole[0] == "products"))
                kinds.add((whole[0], ends is None, ends is not None and ends[1] is None))
        self.assertEqual(len(kinds), 6)

    def test_ends_of_great_rows(self):
        for word in ("sets", "products"):
            for row in great_rows(word):
                for i in range(word == "products", len(row)):
                    ends = self.check_ends((word, row[:i] + (None,) + row[i + 1:]))
                    self.assertIsNotNone(ends)
                    self.assertGreaterEqual(row[i], ends[0])
                    if ends[1] is not None:
                        self.assertLessEqual(row[i], ends[1])

    def test_ends_that_something_else_stands_against(self):
        for ask in (("sets", (3, 4, None)), ("sets", (None, 3, 2)), ("sets", (3, 0, None)), ("sets", (2, None, 1)),
                    ("sets", (1, None)), ("products", (1, 2, 4, None)), ("products", (1, None, 0, 1)), ("products", (1, 1, None, 2)),
                    ("sets", (None, 0)), ("sets", (0, None)), ("sets", (3, 3, None, 1))):
            self.assertIsNone(ends_of(ask), ask)
            self.assertEqual(answers(ask, 60), ())

    def test_edges(self):
        self.assertEqual([ends_of(("sets", (None,))), ends_of(("products", (1, None)))], [(1, None), (0, None)])
        self.assertEqual([ends_of(("sets", (2, None))), ends_of(("products", (1, 0, None)))], [(1, 1), (0, 0)])
        self.assertEqual(ends_of(("products", (1, None, 0))), (0, None))
        self.assertEqual(ends_of(("products", (1, 3, None))), (0, 6))
        self.assertEqual(ends_of(("sets", (None, GREAT)))[1], None)
        self.assertEqual(ends_of(("sets", (GREAT, None))), (1, GREAT * (GREAT - 1) // 2))
        self.assertEqual(ends_of(("sets", (16,) + (None,) + (1,) * 14)), None)
        self.assertEqual(ends_of(("products", (1,) * 15 + (None,))), (0, 1))


class WrongInputs(unittest.TestCase, Raises):

    def wrong_asks(self):
        wrong = list(NO_INTEGERS + PARTS) + [("sets", (1,)), ("Sets", (None,)), ("products", (2, None)), deep(8, SHOP)]
        for ask in (("sets", (4, None, 1)), ("coloured", 2, (4, None)), ("products", (1, None)), ("holes", (4, 5), (0, None))):
            wrong += list(spoiled(ask))
        return [thing for thing in wrong if not is_plain_ask(thing)]

    def test_asks(self):
        for thing in self.wrong_asks():
            self.assert_bad(BadAsk, thing, is_answer, thing, (5,))
            self.assert_bad(BadAsk, thing, sum_number, thing)
            self.assert_bad(BadAsk, thing, ends_of, ask=thing)
            for greatest in (5, -1, None):
                self.assert_bad(BadAsk, thing, answers, thing, greatest, most=0)
            self.assert_bad(BadAsk, thing, answers, greatest=True, ask=thing)

    def test_asks_of_other_words_or_with_two_gaps(self):
        for ask in some_asks():
            if ask[0] != "holes" or gaps_in(ask) == 2:
                self.assert_bad(BadAsk, ask, sum_number, ask)
            if ask[0] not in ("sets", "products") or gaps_in(ask) == 2:
                self.assert_bad(BadAsk, ask, ends_of, ask)

    def test_greatest_numbers(self):
        for wrong in NO_WHOLES:
            for ask in (("sets", (4, None, 1)), ("holes", (4, None), (0, None))):
                self.assert_bad(BadNumber, wrong, answers, ask, wrong)
                self.assert_bad(BadNumber, wrong, answers, greatest=wrong, ask=ask, most=0)

    def test_most_is_passed_by_name_alone(self):
        self.assertIs(type(error_of(answers, ("sets", (None,)), 9, 200)), TypeError)


if __name__ == "__main__":
    unittest.main()
