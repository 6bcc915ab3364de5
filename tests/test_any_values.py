"""Promise [0.2]: with any value in the place of an argument comes an answer, or an error of the package."""

import unittest

from holerows.errors import CountError
from holerows.workshops import Workshop
from plain import NO_INTEGERS, PARTS, SHOP, deep, error_of, spoiled
from test_interface import RIGHT, interface

# Values of many kinds, but no integers so great that what is asked for would be beyond the limits.
VALUES = [thing for thing in NO_INTEGERS + PARTS if type(thing) is not int or abs(thing) < 11]
VALUES += [{SHOP.family(): SHOP}, [[SHOP]], ((SHOP, 1),), (("face", SHOP),), ("fits", SHOP), ("fits", (SHOP,)), deep(8, (SHOP, SHOP))]
DEEDS = (("put", (0, 3)), ("take", (0, 1)), ("cone",), ("hang",), ("push", 0, 1), ("name", (0, 1, 2)), ("flip", (0, 1), (3,)))


def is_small(thing):
    """Whether no integer in a value is so great that what is asked for would be beyond the limits."""
    if isinstance(thing, (tuple, list)):
        return all(is_small(part) for part in thing)
    return not isinstance(thing, int) or abs(thing) < 300


class AnyValues(unittest.TestCase):

    def check(self, name, call, args, given):
        """Twice the same answer, or an equal error; the arguments are as they were."""
        before = repr(args)
        error = error_of(call, *args)
        again = error_of(call, *args)
        self.assertEqual(repr(args), before, name)
        self.assertIs(type(error), type(again))
        if error is None:
            self.assertEqual(repr(call(*args)), repr(call(*args)), (name, args))
            return
        self.assertIsInstance(error, CountError, (name, args))
        self.assertEqual(repr(vars(error)), repr(vars(again)))
        self.assertEqual(repr(error_of(call, **dict(zip(given, args)))), repr(error))

    def test_in_the_place_of_each_argument(self):
        for _, name, parameters, call in interface():
            args = RIGHT[name][0]
            for at, right in enumerate(args):
                for thing in VALUES + [thing for thing in spoiled(right) if is_small(thing)]:
                    self.check(name, call, args[:at] + (thing,) + args[at + 1:], parameters)

    def test_things_are_told_from_others_by_true_and_false(self):
        for _, name, parameters, call in interface():
            if parameters[-1] == "thing":
                for thing in VALUES:
                    self.assertIsInstance(call(*RIGHT[name][0][:-1], thing), bool, name)

    def test_workshops(self):
        for thing in VALUES:
            self.check("Workshop", Workshop, (thing,), ["family"])
            self.check("read", Workshop.read, (thing,), ["text"])
            self.check("holes", Workshop(((0, 1), (2,))).holes, (thing,), ["p"])

    def test_deeds(self):
        for deed in DEEDS:
            for thing in VALUES + [thing for thing in spoiled(deed) if is_small(thing)]:
                shop = Workshop(((0, 1), (0, 2), (1, 2)))
                before = repr(thing)
                error = error_of(shop.do, thing)
                self.assertEqual(repr(thing), before)
                if error is None:
                    self.assertEqual(repr(shop.deeds()), repr((thing,)))
                    shop.undo()
                else:
                    self.assertIsInstance(error, CountError, (deed, thing))
                    self.assertEqual(shop.deeds(), ())
                self.assertEqual(shop.family(), ((0, 1), (0, 2), (1, 2)))


if __name__ == "__main__":
    unittest.main()
