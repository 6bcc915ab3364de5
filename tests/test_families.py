"""Promises [2.1], [2.2], [2.5], the parts of [2.3], and holerows/families.py."""

import random
import unittest
from itertools import combinations, product

from holerows.errors import BadFamily, BadSets, BadSize, BadText
from holerows.families import (
    counts_of, euler_of, faces_of, family_of, family_text, is_face, is_family, is_set, parts_of, read_family,
)
from plain import (
    NO_INTEGERS, NO_SIZES, NO_WHOLES, PARTS, Raises, all_sets, are_plain_first_sets, deep, is_plain_family,
    is_plain_set, many_families, plain_faces, plain_facets, points_number, some_families, spoiled,
    wrong_families,
)

FAMILIES = many_families()
FEW = some_families()
NINE_LONE = tuple((point,) for point in range(9))
NINE_IN_ONE = (tuple(range(9)),)
# The most facets that nine points let.
MIDDLE = tuple(combinations(range(9), 4))


def plain_parts(family):
    """The lots of points that faces of two points lead to, gone along step by step."""
    near = {point: {point} for facet in family for point in facet}
    for face in plain_faces(family):
        if len(face) == 2:
            for point in face:
                near[point] |= face
    for _ in range(10):
        near = {point: set().union(*(near[other] for other in lot)) for point, lot in near.items()}
    return tuple(sorted({tuple(sorted(lot)) for lot in near.values()}))


def plain_text_fault(text):
    """The number that the error of a text carries, None if it is the text of a family."""
    if type(text) is not str:
        return 0
    if text == "-":
        return None
    words = text.split(" ")
    last = ()
    for at, word in enumerate(words):
        if not word or any(sign not in "0123456789" for sign in word) or list(word) != sorted(set(word)):
            return at + 1
        points = tuple(map(int, word))
        if points <= last:
            return at + 1
        last = points
    if not is_plain_family(tuple(tuple(map(int, word)) for word in words)):
        return len(words) + 1
    return None


class Kinds(unittest.TestCase, Raises):

    def test_sets(self):
        for thing in ((), (0,), (0, 1), (3, 10 ** 39), tuple(range(3000))):
            self.assertIs(is_set(thing), True)
        for thing in ((1, 0), (0, 0), (-1,), (True,), (0, True), (False, 1), [0], [], "0", ("0",), ((0,),), None, 0,
                      {0: 1}, (None,), (0, None), (0, [1]), tuple(range(2999)) + (7,)):
            self.assertIs(is_set(thing), False, thing)

    def test_sets_of_all_kinds_of_values(self):
        for base in ((), (0,), (0, 1, 2), (2, 5, 9)):
            for thing in spoiled(base):
                self.assertIs(is_set(thing), is_plain_set(thing), thing)

    def test_families(self):
        for thing in ((), ((0,),), ((0,), (1,)), ((0, 1), (2,)), NINE_LONE, NINE_IN_ONE, MIDDLE):
            self.assertIs(is_family(thing), True)
        for thing in (
            ((),), ((), (0,)), ((1,),), ((0,), (2,)), ((0,), (0,)), ((0,), (0, 1)), ((0, 1), (1,)), ((1,), (0,)),
            ((0, 2), (0, 1)), ((1, 0),), [(0,)], ([0],), ((False,),), ((0,), (True,)), ((0, True),), ((0, 1), (2, [3])),
            NINE_LONE + ((9,),), (tuple(range(10)),), ((0, 10 ** 39),), (0,), ((0,), 1), ((0,), None), "0", None, {},
            ((0, 1, 2), (0, 2)), ((0, 1), (0, 1), (2,)), ((0, 1, 3), (1, 3), (2, 3)),
            tuple((at,) for at in range(3000)),
        ):
            self.assertIs(is_family(thing), False, thing)

    def test_families_of_all_kinds_of_values(self):
        for family in FEW:
            self.assertIs(is_family(family), True)
        for family in ((), ((0,),), ((0, 1),), ((0,), (1,)), ((0, 1), (0, 2), (1, 2)), ((0, 1), (1, 2, 3), (4,))):
            for thing in spoiled(family):
                self.assertIs(is_family(thing), is_plain_family(thing), thing)
                self.assertIs(is_family(thing=thing), is_plain_family(thing))

    def test_all_small_tuples_of_sets(self):
        sets = [part for size in range(4) for part in combinations(range(3), size)] + [(1, 0), (3,)]
        for many in range(4):
            for thing in product(sets, repeat=many):
                self.assertIs(is_family(thing), is_plain_family(thing), thing)


class Made(unittest.TestCase, Raises):

    def test_family_of_all_small_lots_of_sets(self):
        for n in range(4):
            sets = [tuple(sorted(part)) for part in all_sets(range(n))]
            for many in range(4):
                for lot in product(sets, repeat=many):
                    if are_plain_first_sets(lot):
                        self.assertEqual(family_of(lot), plain_facets(plain_faces(lot)), lot)
                    else:
                        self.assert_bad(BadSets, lot, family_of, lot)

    def test_edges(self):
        for sets, family in (
            ((), ()), (((),), ()), (((), ()), ()), (((0,), (0,)), ((0,),)), (((0,), ()), ((0,),)),
            (((2, 3), (0,), (1, 2), (0, 1)), ((0, 1), (1, 2), (2, 3))), (NINE_LONE + NINE_IN_ONE, NINE_IN_ONE),
            (MIDDLE[::-1] + NINE_LONE, MIDDLE), (((0,),) * 3000, ((0,),)),
        ):
            self.assertEqual(family_of(sets), family)

    def test_families_are_their_own(self):
        for family in FAMILIES:
            self.assertEqual(family_of(family), family)
            faces = [tuple(sorted(face)) for face in plain_faces(family)]
            random.Random(3).shuffle(faces)
            self.assertEqual(family_of(tuple(faces)), family)

    def test_wrong_sets(self):
        for wrong in NO_INTEGERS + (0, 1, -1, ((1,),), ((0,), (2,)), ((0, 0),), ((1, 0),), ((0, True),), [()], ([],),
                                    (tuple(range(10)),), NINE_LONE + ((9,),), ((0, 10 ** 39),), ((0, -1),)):
            if not are_plain_first_sets(wrong):
                self.assert_bad(BadSets, wrong, family_of, wrong)
                self.assert_bad(BadSets, wrong, family_of, sets=wrong)
        for base in ((), ((),), ((0, 1), ()), ((1,), (0, 2), (0,))):
            for thing in spoiled(base):
                if are_plain_first_sets(thing):
                    self.assertEqual(family_of(thing), plain_facets(plain_faces(thing)))
                else:
                    self.assert_bad(BadSets, thing, family_of, thing)


class Counts(unittest.TestCase):

    def test_against_all_sets(self):
        for family in FAMILIES:
            faces = plain_faces(family)
            sizes = [len(face) for face in faces]
            self.assertEqual(counts_of(family), tuple(sizes.count(size) for size in range(1, max(sizes) + 1)))
            self.assertEqual(euler_of(family), sum(1 if size % 2 else -1 for size in sizes))
            for size in range(12):
                told = tuple(sorted(tuple(sorted(face)) for face in faces if len(face) == size))
                self.assertEqual(faces_of(family, size), told)

    def test_edges(self):
        self.assertEqual([counts_of(()), euler_of(()), faces_of((), 0), faces_of((), 1)], [(), -1, ((),), ()])
        self.assertEqual(counts_of(NINE_IN_ONE), (9, 36, 84, 126, 126, 84, 36, 9, 1))
        self.assertEqual(euler_of(NINE_IN_ONE), 0)
        self.assertEqual(counts_of(NINE_LONE), (9,))
        self.assertEqual(euler_of(NINE_LONE), 8)
        self.assertEqual(counts_of(MIDDLE), (9, 36, 84, 126))
        self.assertEqual(faces_of(NINE_IN_ONE, 9), NINE_IN_ONE)

    def test_sizes_beyond_the_greatest_one(self):
        for family in FEW:
            for size in (10, 11, 100, 2 ** 31, 2 ** 63, 10 ** 30, 10 ** 39):
                self.assertEqual(faces_of(family, size), ())
            self.assertEqual(faces_of(family, 0), ((),))


class Faces(unittest.TestCase):

    def test_against_all_sets(self):
        for family in FAMILIES:
            faces = plain_faces(family)
            n = points_number(family)
            for part in all_sets(range(n if n > 5 else n + 2)):
                self.assertIs(is_face(family, tuple(sorted(part))), part in faces)

    def test_all_kinds_of_values(self):
        for family in ((), ((0,),), ((0, 1), (2,)), NINE_IN_ONE):
            faces = {tuple(sorted(face)) for face in plain_faces(family)}
            for thing in NO_SIZES + PARTS + ((9,), (0, 10 ** 39), (10 ** 39,), deep(10, 0)):
                right = is_plain_set(thing) and thing in faces
                self.assertIs(is_face(family, thing), right, thing)
                self.assertIs(is_face(thing=thing, family=family), right)
            for thing in spoiled((0, 1, 2)):
                self.assertIs(is_face(family, thing), is_plain_set(thing) and thing in faces, thing)

    def test_no_bools_and_no_lists(self):
        for thing in ((False,), (True,), (0, True), (False, True), [0], [], ((),), "", None):
            self.assertIs(is_face(((0, 1),), thing), False)


class Parts(unittest.TestCase):

    def test_against_steps(self):
        for family in FAMILIES:
            self.assertEqual(parts_of(family), plain_parts(family), family)

    def test_edges(self):
        self.assertEqual(parts_of(()), ())
        self.assertEqual(parts_of(NINE_LONE), NINE_LONE)
        self.assertEqual(parts_of(NINE_IN_ONE), NINE_IN_ONE)
        self.assertEqual(parts_of(((0, 3), (1, 4), (2,), (4, 5))), ((0, 3), (1, 4, 5), (2,)))
        self.assertEqual(parts_of(((0, 1), (2, 3), (4, 5), (5, 6), (6, 7))), ((0, 1), (2, 3), (4, 5, 6, 7)))
        self.assertEqual(parts_of(((0, 8), (1, 7), (2, 6), (3, 5, 6), (4,), (7, 8))),
                         ((0, 1, 7, 8), (2, 3, 5, 6), (4,)))


class Texts(unittest.TestCase, Raises):

    def test_texts_and_back(self):
        for family in FAMILIES:
            text = family_text(family)
            told = " ".join("".join(map(str, facet)) for facet in family) if family else "-"
            self.assertEqual(text, told)
            self.assertEqual(read_family(text), family)
            self.assertEqual(read_family(text=text), family)

    def test_words_that_are_wrong(self):
        for text, at in (
            ("", 1), (" ", 1), ("0 ", 2), (" 0", 1), ("0  1", 2), ("a", 1), ("0 a", 2), ("- 0", 1), ("0 -", 2),
            ("--", 1), ("-0", 1), ("+0", 1), ("10", 1), ("00", 1), ("01 00", 2), ("0 0", 2), ("1 0", 2), ("01 0", 2),
            ("02 01", 2), ("0\n1", 1), ("0\n", 1), ("0 1\n", 2), ("\n", 1), ("01,02", 1), ("0_1", 1), ("- ", 1),
            (" -", 1), ("0 1 10", 3), ("0 1 1 x", 3), ("0 2 x 1", 3), ("0123456789a", 1), ("~", 1),
        ):
            self.assertEqual(plain_text_fault(text), at, text)
            self.assert_raises_with(BadText, "at", at, read_family, text)
            self.assert_raises_with(BadText, "at", at, read_family, text=text)

    def test_words_that_are_no_family_together(self):
        for text, at in (("1", 2), ("0 2", 3), ("0 01", 3), ("01 1", 3), ("0123456789", 2), ("9", 2), ("012 12 3", 4),
                         ("0 1 2 3 4 5 6 7 8 9", 11), ("0 01 012", 4), ("01 3", 3)):
            self.assert_raises_with(BadText, "at", at, read_family, text)

    def test_digits_of_other_scripts(self):
        for word in ("\u0660", "\u00b2", "0\u0661"):
            self.assert_raises_with(BadText, "at", 1, read_family, word)

    def test_no_strings(self):
        for wrong in NO_INTEGERS + (0, 1, -1, 10 ** 39, ((0,),), ["0"], ("0",), b"0"):
            if type(wrong) is not str:
                self.assert_raises_with(BadText, "at", 0, read_family, wrong)

    def test_all_short_texts(self):
        for length in range(6):
            for signs in product("012 -", repeat=length):
                text = "".join(signs)
                at = plain_text_fault(text)
                if at is None:
                    self.assertEqual(family_text(read_family(text)), text)
                else:
                    self.assert_raises_with(BadText, "at", at, read_family, text)

    def test_texts_with_a_change(self):
        chance = random.Random(8)
        for family in FEW:
            text = family_text(family)
            for _ in range(40):
                at = chance.randrange(len(text) + 1)
                changed = text[:at] + chance.choice(["", " ", "-", "x", "9", *"012345678"]) + text[at + 1:]
                fault = plain_text_fault(changed)
                if fault is None:
                    self.assertEqual(family_text(read_family(changed)), changed)
                else:
                    self.assert_raises_with(BadText, "at", fault, read_family, changed)


class WrongInputs(unittest.TestCase, Raises):

    def test_families(self):
        for wrong in wrong_families():
            for call in (counts_of, euler_of, parts_of, family_text):
                self.assert_bad(BadFamily, wrong, call, wrong)
                self.assert_bad(BadFamily, wrong, call, family=wrong)
            for second in (0, 2, (), (0,), None, True, -1, [0]):
                self.assert_bad(BadFamily, wrong, faces_of, wrong, second)
                self.assert_bad(BadFamily, wrong, is_face, wrong, second)
            self.assert_bad(BadFamily, wrong, faces_of, size=-1, family=wrong)
            self.assert_bad(BadFamily, wrong, is_face, thing=(), family=wrong)

    def test_sizes(self):
        for family in FEW:
            for wrong in NO_WHOLES:
                self.assert_bad(BadSize, wrong, faces_of, family, wrong)
                self.assert_bad(BadSize, wrong, faces_of, size=wrong, family=family)


if __name__ == "__main__":
    unittest.main()
