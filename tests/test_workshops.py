"""Promises [12.1] to [12.3], and holerows/workshops.py."""

import random
import unittest
from itertools import combinations

from holerows.ends import most_holes
from holerows.errors import (
    BadDeed, BadFace, BadFamily, BadField, BadNames, BadPoint, BadSet, BadText, NoFlip, NotSphere, NothingToRedo,
    NothingToUndo, TooGreat,
)
from holerows.families import counts_of, family_text, read_family
from holerows.flips import flips_of
from holerows.holes import holes_of
from holerows.rows import near_cone
from holerows.spheres import first_sphere, round_holds
from holerows.workshops import Workshop
from plain import (
    FIELDS, FOLDED, NO_INTEGERS, PARTS, SHOP, Raises, all_sets, deep, error_of, is_plain_integer, is_plain_set,
    many_families, plain_bad_faces, plain_faces, plain_facets, plain_flipped, plain_holes, plain_push,
    points_number, spoiled, wrong_families,
)

RING = ((0, 1), (0, 2), (1, 2))
LENGTHS = {"put": 2, "take": 2, "cone": 1, "hang": 1, "push": 3, "name": 2, "flip": 3}


def is_plain_deed_form(thing):
    if type(thing) is not tuple or not thing or type(thing[0]) is not str:
        return False
    return LENGTHS.get(thing[0]) == len(thing)


def plain_behind(family, deed):
    """The family behind a deed, told anew from its faces."""
    faces = plain_faces(family)
    n = points_number(family)
    if deed[0] == "put":
        faces = faces | set(all_sets(deed[1]))
    elif deed[0] == "take":
        faces = {face for face in faces if not set(deed[1]) <= face}
    elif deed[0] == "cone":
        faces = faces | {face | {n} for face in faces}
    elif deed[0] == "hang":
        faces = faces | {face | {n} for face in faces} | {face | {n + 1} for face in faces}
    elif deed[0] == "push":
        faces = plain_push(faces, deed[1], deed[2])
    elif deed[0] == "name":
        faces = {frozenset(deed[1][point] for point in face) for face in faces}
    else:
        return plain_flipped(family, deed[1], deed[2])
    return plain_facets(faces)


def some_deed(chance, family):
    """A deed that can be done, or is refused because of too many points."""
    n = points_number(family)
    word = chance.choice(("put", "put", "put", "take", "take", "cone", "hang", "push", "name", "flip"))
    # Most other deeds spoil a round family, so that flips are taken as long as they come.
    if n > 2 and chance.random() < 0.7 and error_of(flips_of, family) is None:
        word = "flip"
    if word == "put":
        return word, tuple(sorted(chance.sample(range(n + 1), chance.randint(1, min(4, n + 1)))))
    if word == "take":
        faces = [tuple(sorted(face)) for face in plain_faces(family) if len(face) > 1]
        return (word, chance.choice(sorted(faces))) if faces else ("cone",)
    if word == "push" and n > 1:
        return (word,) + tuple(sorted(chance.sample(range(n), 2)))
    if word == "name":
        return word, tuple(chance.sample(range(n), n))
    if word == "flip" and error_of(flips_of, family) is None:
        return (word,) + chance.choice(flips_of(family))
    return (chance.choice(("cone", "hang")) if n < 6 else "put",) + ((0,),) * (n > 5)


def points_behind(family, deed):
    """How many points there would be, as far as a deed adds some."""
    n = points_number(family)
    if deed[0] == "put":
        return max(n, deed[1][-1] + 1)
    if deed[0] == "flip":
        return max(n, deed[2][-1] + 1)
    return n + {"cone": 1, "hang": 2}.get(deed[0], 0)


class Model:
    """A plain workshop: all families that there were, the deeds between them, and the place among them."""

    def __init__(self, family):
        self.families, self.deeds, self.at = [family], [], 0

    def do(self, deed):
        self.deeds = self.deeds[:self.at] + [deed]
        self.families = self.families[:self.at + 1] + [plain_behind(self.families[self.at], deed)]
        self.at += 1


class Rows(unittest.TestCase, Raises):

    def check(self, shop, model):
        family = model.families[model.at]
        self.assertEqual(repr(shop.family()), repr(family))
        self.assertEqual(repr(shop.deeds()), repr(tuple(model.deeds[:model.at])))
        self.assertEqual(str(shop), "workshop " + family_text(family))
        self.assertEqual(shop.counts(), counts_of(family))
        for told in (shop == Workshop(family), not shop != Workshop(family), shop == shop.copy()):
            self.assertIs(told, True)

    def check_holes(self, shop, p):
        family = shop.family()
        if points_number(family) < 7:
            self.assertEqual(shop.holes(p), plain_holes(family, p))
        self.assertEqual(shop.holes(p=p), holes_of(family, p))
        self.assertIs(shop.is_most(), family == () or holes_of(family, 2) == most_holes(counts_of(family)))

    def step(self, chance, shop, model):
        """Does a deed, undoes one or does one again, in the workshop and in the model."""
        kind = chance.choice(("do", "do", "do", "undo", "undo", "redo"))
        if kind == "undo" and model.at == 0:
            self.assertIs(type(error_of(shop.undo)), NothingToUndo)
        elif kind == "undo":
            self.assertIsNone(shop.undo())
            model.at -= 1
        elif kind == "redo" and model.at == len(model.deeds):
            self.assertIs(type(error_of(shop.redo)), NothingToRedo)
        elif kind == "redo":
            self.assertIsNone(shop.redo())
            model.at += 1
        else:
            deed = some_deed(chance, shop.family())
            many = points_behind(shop.family(), deed)
            if many > 8:
                self.assert_raises_with(TooGreat, "points", many, shop.do, deed)
            else:
                self.assertIsNone(shop.do(deed))
                model.do(deed)
            return deed[0], many > 8
        return kind, False

    def test_long_rows_of_deeds(self):
        chance = random.Random(12)
        met = set()
        for start in ((), RING, ((0,),), FOLDED, tuple(combinations(range(5), 4)), ((0, 1, 2), (2, 3)), first_sphere((6, 12, 8)),
                      first_sphere((8, 18, 12)), tuple((point,) for point in range(8))):
            shop, model = Workshop(start), Model(start)
            for at in range(80):
                met.add(self.step(chance, shop, model))
                self.check(shop, model)
                if at % 6 == 0:
                    self.check_holes(shop, chance.choice(FIELDS))
        self.assertLess({(word, False) for word in LENGTHS} | {("undo", False), ("redo", False)}, met)
        self.assertGreater(len([word for word, refused in met if refused]), 2)

    def test_copies_go_on_by_themselves(self):
        chance = random.Random(13)
        for start in ((), RING, ((0, 1, 2), (2, 3))):
            shop, model = Workshop(start), Model(start)
            for _ in range(25):
                self.step(chance, shop, model)
            other, twin = shop.copy(), Model(start)
            twin.families, twin.deeds, twin.at = list(model.families), list(model.deeds), model.at
            self.assertIs(other == shop, True)
            self.assertIsNot(other, shop)
            for _ in range(60):
                self.step(chance, *chance.choice([(shop, model), (other, twin)]))
                self.check(shop, model)
                self.check(other, twin)

    def test_all_the_way_back_and_on_again(self):
        chance = random.Random(14)
        for start in ((), RING):
            shop, model = Workshop(start), Model(start)
            while len(model.deeds) < 30:
                deed = some_deed(chance, shop.family())
                if points_behind(shop.family(), deed) < 9:
                    shop.do(deed)
                    model.do(deed)
            for step, move in ((shop.undo, -1), (shop.redo, 1), (shop.undo, -1), (shop.redo, 1)):
                for _ in range(30):
                    step()
                    model.at += move
                    self.check(shop, model)
                error = error_of(step)
                self.assertIs(type(error), NothingToUndo if move < 0 else NothingToRedo)
                self.assertEqual(vars(error), {})
                self.check(shop, model)

    def test_copies_keep_what_was_undone(self):
        shop = Workshop(())
        shop.do(("cone",))
        shop.do(("hang",))
        shop.undo()
        other = shop.copy()
        other.redo()
        self.assertEqual([other.family(), shop.family()], [((0, 1), (0, 2)), ((0,),)])
        self.assertEqual([other.deeds(), shop.deeds()], [(("cone",), ("hang",)), (("cone",),)])
        shop.do(("cone",))
        other.undo()
        other.redo()
        self.assertIs(type(error_of(shop.redo)), NothingToRedo)
        self.assertEqual(other.family(), ((0, 1), (0, 2)))


class Deeds(unittest.TestCase, Raises):

    def check(self, family, deed, right):
        shop = Workshop(family)
        self.assertIsNone(shop.do(deed))
        self.assertEqual(repr(shop.family()), repr(right))
        self.assertEqual(right, plain_behind(family, deed))
        self.assertEqual(shop.deeds(), (deed,))
        shop.undo()
        self.assertEqual([shop.family(), shop.deeds()], [family, ()])
        shop.redo()
        self.assertEqual([shop.family(), shop.deeds()], [right, (deed,)])
        named = Workshop(family=family)
        named.do(deed=deed)
        self.assertIs(named == shop, True)

    def test_each_word(self):
        self.check((), ("put", (0,)), ((0,),))
        self.check(RING, ("put", (0, 1, 2)), ((0, 1, 2),))
        self.check(RING, ("put", (1, 3)), ((0, 1), (0, 2), (1, 2), (1, 3)))
        self.check(RING, ("put", (3,)), ((0, 1), (0, 2), (1, 2), (3,)))
        self.check(((0, 1, 2), (1, 3)), ("take", (1, 2)), ((0, 1), (0, 2), (1, 3)))
        self.check(((0, 1),), ("take", (0, 1)), ((0,), (1,)))
        self.check((), ("cone",), ((0,),))
        self.check(RING, ("cone",), ((0, 1, 3), (0, 2, 3), (1, 2, 3)))
        self.check((), ("hang",), ((0,), (1,)))
        self.check(((0,),), ("hang",), ((0, 1), (0, 2)))
        self.check(((0, 1), (2, 3)), ("push", 0, 2), ((0, 1), (0, 3), (2,)))
        self.check(((0, 1), (2,)), ("name", (2, 0, 1)), ((0, 2), (1,)))
        self.check((), ("name", ()), ())
        self.check(RING, ("flip", (0, 1), (3,)), ((0, 2), (0, 3), (1, 2), (1, 3)))
        self.check(((0, 1), (0, 3), (1, 2), (2, 3)), ("flip", (1,), (0, 2)), RING)

    def test_deeds_that_change_nothing(self):
        """They are recorded like others."""
        for family, deed in ((RING, ("put", (0, 1))), (RING, ("put", (2,))), (RING, ("push", 0, 1)), (RING, ("name", (1, 0, 2))),
                             ((), ("name", ())), (((0, 1, 2),), ("put", (0, 2)))):
            self.check(family, deed, family)

    def test_each_deed_ends_what_can_be_done_again(self):
        for deed in (("put", (0, 1)), ("push", 0, 1), ("name", (0, 1, 2)), ("cone",), ("put", (0, 1, 2)), ("take", (0, 2))):
            shop = Workshop(RING)
            shop.do(("put", (0, 1, 2)))
            shop.do(("take", (0, 1)))
            shop.undo()
            shop.undo()
            shop.do(deed)
            self.assertIs(type(error_of(shop.redo)), NothingToRedo)
            self.assertEqual(shop.deeds(), (deed,))
            shop.undo()
            self.assertIs(type(error_of(shop.undo)), NothingToUndo)
            shop.redo()
            self.assertEqual(shop.deeds(), (deed,))

    def test_eight_points(self):
        seven = tuple((point,) for point in range(7))
        eight = tuple((point,) for point in range(8))
        self.check(seven, ("cone",), tuple((point, 7) for point in range(7)))
        self.check(seven, ("put", (0, 7)), ((0, 7),) + seven[1:])
        self.check(seven[:6], ("hang",), tuple(sorted((point, end) for point in range(6) for end in (6, 7))))
        self.check(((0, 1), (0, 6), (1, 2), (2, 3), (3, 4), (4, 5), (5, 6)), ("flip", (0, 6), (7,)),
                   ((0, 1), (0, 7), (1, 2), (2, 3), (3, 4), (4, 5), (5, 6), (6, 7)))
        self.check(eight, ("put", tuple(range(8))), (tuple(range(8)),))
        self.check((tuple(range(8)),), ("take", (0, 7)), (tuple(range(7)), tuple(range(1, 8))))
        for family, deed, many in ((eight, ("cone",), 9), (eight, ("hang",), 10), (seven, ("hang",), 9), (eight, ("put", (8,)), 9),
                                   (eight, ("put", (0, 3, 8)), 9), (first_sphere((8, 8)), ("flip", first_sphere((8, 8))[3], (8,)), 9)):
            shop = Workshop(family)
            self.assert_raises_with(TooGreat, "points", many, shop.do, deed)
            self.assertEqual([shop.family(), shop.deeds()], [family, ()])


class Refusals(unittest.TestCase, Raises):

    def shop(self, family):
        """A workshop with a deed done and another one undone."""
        shop = Workshop(family)
        shop.do(("name", tuple(range(points_number(family)))))
        shop.do(("put", (0,)))
        shop.undo()
        return shop

    def check_as_before(self, shop, family):
        self.assertEqual(shop.family(), family)
        self.assertEqual(shop.deeds(), (("name", tuple(range(points_number(family)))),))
        other = shop.copy()
        self.assertIsNone(error_of(other.redo))
        self.assertIs(type(error_of(other.redo)), NothingToRedo)
        self.assertEqual(other.deeds()[1:], (("put", (0,)),))

    def check(self, kind, family, wrong, deed):
        shop = self.shop(family)
        self.assert_bad(kind, wrong, shop.do, deed)
        self.check_as_before(shop, family)

    def test_deeds(self):
        wrong = list(NO_INTEGERS + PARTS) + [("put",), ("put", (0,), (1,)), ("cone", ()), ("hang", 1), ("push", 0), ("name",)]
        wrong += [("flip", (0, 1)), ("Put", (0,)), ("", (0,)), ["put", (0,)], (("put",), (0,)), ("undo",), ("redo",), ("copy",)]
        wrong += [(SHOP,), (["cone"],), ({"cone": 1},), (None,), ("push", 0, 1, 2), ("flip", (0, 1), (3,), 1), deep(9, SHOP)]
        for deed in (("put", (0,)), ("take", (0, 1)), ("cone",), ("push", 0, 1), ("name", (0, 1, 2)), ("flip", (0, 1), (3,))):
            wrong += list(spoiled(deed))
        for thing in wrong:
            if not is_plain_deed_form(thing):
                self.check(BadDeed, RING, thing, thing)
        shop = self.shop(RING)
        self.assert_bad(BadDeed, None, shop.do, deed=None)

    def test_sets_to_put(self):
        for family in ((), RING, ((0, 1, 2), (2, 3))):
            n = points_number(family)
            wrong = list(NO_INTEGERS + PARTS) + [(), (n + 1,), (0, n + 1), (n, n + 1), (n, 0), (0, 0), [0], (-1,), (True,), (False, 1)]
            for thing in wrong + list(spoiled((0, 2))):
                if not is_plain_set(thing) or thing == () or thing[-1] > n:
                    self.check(BadSet, family, thing, ("put", thing))
        eight = tuple((point,) for point in range(8))
        for thing in ((9,), (8, 9), (0, 9)):
            self.check(BadSet, eight, thing, ("put", thing))

    def test_faces_to_take(self):
        for family in ((), RING, ((0, 1, 2), (2, 3))):
            faces = {tuple(sorted(face)) for face in plain_faces(family) if len(face) > 1}
            wrong = list(NO_INTEGERS + PARTS) + [(), (0,), (0, 3), (0, 1, 2, 3), [0, 1], (1, 0), (0, 0), (False, 1), (0, True)]
            for thing in wrong + list(spoiled((0, 1))):
                if not (is_plain_set(thing) and thing in faces):
                    self.check(BadFace, family, thing, ("take", thing))

    def test_points_to_push(self):
        for family in ((), RING, ((0, 1, 2), (2, 3))):
            n = points_number(family)
            for thing in NO_INTEGERS + PARTS + (n, n + 1, -1):
                if not is_plain_integer(thing, 0) or thing >= n:
                    for j in (1, 0, None, thing):
                        self.check(BadPoint, family, thing, ("push", thing, j))
                    if n:
                        self.check(BadPoint, family, thing, ("push", 0, thing))
            for i in range(n):
                for j in range(i + 1):
                    self.check(BadPoint, family, j, ("push", i, j))

    def test_names(self):
        for family in ((), RING, ((0, 1, 2), (2, 3))):
            n = points_number(family)
            wrong = list(NO_INTEGERS + PARTS) + list(spoiled(tuple(range(n)))) + [(0,) * n, list(range(n)), tuple(range(1, n + 1))]
            for thing in wrong:
                told = type(thing) is tuple and all(is_plain_integer(part, 0) for part in thing)
                if not (told and sorted(thing) == list(range(n))):
                    self.check(BadNames, family, thing, ("name", thing))

    def test_flips(self):
        for family in ((), ((0,), (1,)), ((0, 1, 2), (2, 3)), FOLDED):
            shop = self.shop(family) if family else Workshop(())
            for face, other in (((0, 1), (3,)), (None, ())):
                error = error_of(shop.do, ("flip", face, other))
                self.assertIs(type(error), NotSphere)
                if family and len(family[0]) > 1:
                    self.assertIn(error.certificate, [("face", bad) for bad in plain_bad_faces(family, 2)])
                    self.assertIs(round_holds(family, 2, error.certificate), True)
                else:
                    self.assertEqual(error.certificate, ("face", ()))
        for face, other in (((0, 1), (2,)), ((0,), (1, 2)), ((), (0, 1, 2)), (None, (3,)), ((0,), None), ((0, 1), [3]), (SHOP, SHOP), ((0, True), (3,))):
            shop = self.shop(RING)
            error = error_of(shop.do, ("flip", face, other))
            self.assertIs(type(error), NoFlip)
            self.assertIs(error.thing[0], face)
            self.assertIs(error.thing[1], other)
            self.check_as_before(shop, RING)

    def test_questions_change_nothing(self):
        shop = self.shop(RING)
        for p in FIELDS:
            shop.holes(p)
        for thing in NO_INTEGERS + PARTS + (4, 11):
            if type(thing) is not int or thing not in FIELDS:
                self.assert_bad(BadField, thing, shop.holes, thing)
                self.assert_bad(BadField, thing, shop.holes, p=thing)
        for question in (shop.family, shop.deeds, shop.counts, shop.is_most, shop.copy):
            question()
            self.assertEqual(str(shop), "workshop 01 02 12")
        self.assertIs(shop == Workshop(RING), True)
        self.check_as_before(shop, RING)

    def test_an_undo_too_many_changes_nothing(self):
        shop = self.shop(RING)
        shop.undo()
        for _ in range(3):
            self.assertIs(type(error_of(shop.undo)), NothingToUndo)
            self.assertEqual([shop.family(), shop.deeds()], [RING, ()])
        shop.redo()
        self.check_as_before(shop, RING)

    def test_families(self):
        for thing in wrong_families():
            self.assert_bad(BadFamily, thing, Workshop, thing)
            self.assert_bad(BadFamily, thing, Workshop, family=thing)


class Likeness(unittest.TestCase):

    def test_equal_whatever_deeds_led_there(self):
        one, other = Workshop(((0,),)), Workshop(())
        one.do(("cone",))
        other.do(("put", (0,)))
        self.assertIs(one == other, False)
        other.do(("put", (0, 1)))
        other.do(("put", (1,)))
        other.undo()
        for told in (one == other, other == one, not one != other, one == Workshop(((0, 1),))):
            self.assertIs(told, True)
        one.undo()
        for told in (one == other, other == one):
            self.assertIs(told, False)
        self.assertIs(one != other, True)

    def test_unlike_any_other_value(self):
        for family in ((), ((0, 1), (2,))):
            shop = Workshop(family)
            for thing in NO_INTEGERS + PARTS + (family, str(shop), family_text(family), [family], {0: shop}):
                right = isinstance(thing, Workshop) and thing.family() == family
                self.assertIs(shop == thing, right)
                self.assertIs(thing == shop, right)
                self.assertIs(shop != thing, not right)

    def test_families_of_all_kinds(self):
        for family in many_families():
            if points_number(family) < 9:
                shop = Workshop(family)
                self.assertEqual([shop.family(), shop.deeds(), shop.counts()], [family, (), counts_of(family)])
                self.assertEqual(str(shop), "workshop " + family_text(family))
                self.assertIs(Workshop.read(str(shop)) == shop, True)

    def test_most_holes(self):
        many = 0
        for family in many_families():
            if points_number(family) < 9:
                right = family == () or holes_of(family, 2) == most_holes(counts_of(family))
                self.assertIs(Workshop(family).is_most(), right, family)
                many += right
                if family:
                    counts = counts_of(family)
                    self.assertIs(Workshop(near_cone(counts, most_holes(counts))).is_most(), True)
        self.assertGreater(many, 20)
        self.assertIs(Workshop(()).is_most(), True)
        self.assertIs(Workshop(((0, 1), (1, 2), (2, 3))).is_most(), False)
        # Over 2 the folded plane has holes that it has not over 3; the question is about 2.
        self.assertEqual(Workshop(FOLDED).is_most(), (0, 1, 1) == most_holes((6, 15, 10)))


class Texts(unittest.TestCase, Raises):

    def test_right_ones(self):
        self.assertEqual([str(Workshop(())), str(Workshop(((0, 1), (2,))))], ["workshop -", "workshop 01 2"])
        for text, family in (("workshop -", ()), ("workshop 0", ((0,),)), ("workshop 01 2", ((0, 1), (2,)))):
            for shop in (Workshop.read(text), Workshop.read(text=text), Workshop(((0,),)).read(text)):
                self.assertIs(type(shop), Workshop)
                self.assertEqual([shop.family(), shop.deeds(), str(shop)], [family, (), text])
                self.assertIs(type(error_of(shop.undo)), NothingToUndo)
                self.assertIs(type(error_of(shop.redo)), NothingToRedo)

    def test_no_strings(self):
        for thing in NO_INTEGERS + PARTS:
            if type(thing) is not str:
                self.assert_raises_with(BadText, "at", 0, Workshop.read, thing)
                self.assert_raises_with(BadText, "at", 0, Workshop.read, text=thing)

    def test_first_words(self):
        for text in ("", " ", "-", "0", "Workshop -", "workshops -", "worksho -", " workshop -", "workshop\n-", "workshop-", "01 2",
                     "workshop\n", "WORKSHOP", "x" * 1000, "- workshop"):
            self.assert_raises_with(BadText, "at", 1, Workshop.read, text)

    def test_words_behind(self):
        for text, at in (("workshop", 2), ("workshop ", 2), ("workshop  ", 2), ("workshop  -", 2), ("workshop x", 2), ("workshop 10", 2),
                         ("workshop 00", 2), ("workshop 01 -", 3), ("workshop - -", 2), ("workshop - 0", 2), ("workshop 01  2", 3),
                         ("workshop 01 ", 3), ("workshop 01 02 02", 4), ("workshop 01 02 12 x", 5), ("workshop 2 01", 3),
                         ("workshop 0 01", 4), ("workshop 01 1", 4), ("workshop 1", 3), ("workshop 02", 3), ("workshop 01 3", 4),
                         ("workshop workshop", 2), ("workshop 01 02\n", 3), ("workshop 0a", 2)):
            self.assert_raises_with(BadText, "at", at, Workshop.read, text)

    def test_words_are_counted_on(self):
        chance = random.Random(123)
        for _ in range(400):
            text = "".join(chance.choice("0012 34-x \n") for _ in range(chance.randint(0, 8)))
            error = error_of(read_family, text)
            if error is None:
                self.assertEqual(Workshop.read("workshop " + text).family(), read_family(text))
            else:
                self.assert_raises_with(BadText, "at", error.at + 1, Workshop.read, "workshop " + text)


if __name__ == "__main__":
    unittest.main()
