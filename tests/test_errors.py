"""The error classes: all of them, their base classes, and what they carry."""

import copy
import inspect
import unittest

import holerows.errors as errors
from plain import NO_SIZES

WITH_THING = (
    "BadNumber", "BadSize", "BadCascade", "BadSet", "BadSets", "BadFamily", "BadFace", "BadPoint", "BadNames",
    "BadField", "BadChain", "BadCounts", "BadHoles", "BadRow", "BadProduct", "BadOrder", "BadColours", "BadAsk",
    "BadDeed", "NoFlip",
)
PARAMETERS = {name: "thing" for name in WITH_THING}
PARAMETERS.update({"BadText": "at", "NotFit": "certificate", "NotSphere": "certificate", "TooGreat": "points",
                   "TooMany": "most"})
WITHOUT = ("NothingToUndo", "NothingToRedo")


class Errors(unittest.TestCase):

    def test_just_these_classes(self):
        found = {name for name, part in vars(errors).items() if inspect.isclass(part)}
        self.assertEqual(found, {"CountError", *PARAMETERS, *WITHOUT})
        for name in found:
            self.assertEqual(getattr(errors, name).__module__, "holerows.errors")

    def test_base_classes(self):
        self.assertEqual(errors.CountError.__bases__, (Exception,))
        for name in (*PARAMETERS, *WITHOUT):
            self.assertEqual(getattr(errors, name).__bases__, (errors.CountError,), name)

    def test_parameters_are_attributes(self):
        for name, parameter in PARAMETERS.items():
            kind = getattr(errors, name)
            self.assertEqual(list(inspect.signature(kind).parameters), [parameter], name)
            for value in NO_SIZES + (3, 10 ** 30, ("size", 2), ((0, 1), (3,))):
                by_position = kind(value)
                self.assertIs(getattr(by_position, parameter), value)
                self.assertEqual(vars(by_position), {parameter: value})
                by_name = kind(**{parameter: value})
                self.assertIs(getattr(by_name, parameter), value)
                self.assertEqual(vars(copy.copy(by_position)), {parameter: value})

    def test_errors_without_parameters(self):
        for name in WITHOUT:
            kind = getattr(errors, name)
            self.assertEqual(vars(kind()), {})

    def test_caught_by_the_base_class(self):
        for name, parameter in PARAMETERS.items():
            with self.assertRaises(errors.CountError):
                raise getattr(errors, name)(1)
        for name in WITHOUT:
            with self.assertRaises(errors.CountError):
                raise getattr(errors, name)()

    def test_a_parameter_is_asked_for(self):
        for name in PARAMETERS:
            with self.assertRaises(TypeError):
                getattr(errors, name)()


if __name__ == "__main__":
    unittest.main()
