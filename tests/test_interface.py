"""The names, the parameters and the places of the interface, and the form of the package's files."""

import ast
import importlib
import inspect
import pathlib
import unittest

from holerows.workshops import Workshop

PACKAGE = pathlib.Path(__file__).resolve().parent.parent / "holerows"

INTERFACE = {
    "holerows.cascades": {
        "cascade_of": ["number", "size"],
        "lower_sets": ["number", "size"],
        "upper_sets": ["number", "size"],
        "lower_products": ["number", "size"],
        "upper_products": ["number", "size"],
        "is_cascade": ["size", "thing"],
        "number_of": ["size", "cascade"],
    },
    "holerows.families": {
        "is_set": ["thing"],
        "is_family": ["thing"],
        "family_of": ["sets"],
        "counts_of": ["family"],
        "euler_of": ["family"],
        "parts_of": ["family"],
        "family_text": ["family"],
        "faces_of": ["family", "size"],
        "is_face": ["family", "thing"],
        "read_family": ["text"],
    },
    "holerows.builds": {
        "link_of": ["family", "face"],
        "without": ["family", "face"],
        "mirror_of": ["family"],
        "skeleton_of": ["family", "size"],
        "cone_of": ["family"],
        "hung_of": ["family"],
        "join_of": ["one", "other"],
        "beside": ["one", "other"],
        "renamed": ["family", "names"],
    },
    "holerows.firsts": {
        "set_number": ["points"],
        "set_at": ["size", "number"],
        "first_sets": ["size", "many"],
        "shadow_of": ["sets"],
        "is_counts": ["thing"],
        "judge_counts": ["counts"],
        "counts_hold": ["counts", "thing"],
        "first_family": ["counts"],
    },
    "holerows.pushes": {
        "pushed": ["family", "i", "j"],
        "is_low": ["family"],
        "low_form": ["family"],
        "low_holes": ["family"],
    },
    "holerows.chains": {
        "is_chain": ["family", "p", "size", "thing"],
        "rim_of": ["family", "p", "chain"],
        "is_cycle": ["family", "p", "chain"],
        "judge_cycle": ["family", "p", "chain"],
        "cycle_holds": ["family", "p", "chain", "thing"],
    },
    "holerows.holes": {
        "holes_of": ["family", "p"],
        "hole_pairs": ["family", "p", "size"],
        "pairs_hold": ["family", "p", "size", "thing"],
    },
    "holerows.rows": {
        "rests_of": ["counts", "holes"],
        "judge_rows": ["counts", "holes"],
        "rows_hold": ["counts", "holes", "thing"],
        "near_cone": ["counts", "holes"],
        "lids_of": ["counts", "holes"],
    },
    "holerows.ends": {
        "least_rests": ["counts"],
        "most_holes": ["counts"],
        "least_holes": ["counts"],
        "has_hole_row": ["counts", "thing"],
        "many_hole_rows": ["counts"],
        "all_hole_rows": ["counts"],
        "least_counts": ["holes"],
        "join_counts": ["one", "other"],
        "join_holes": ["one", "other"],
    },
    "holerows.products": {
        "is_product": ["thing"],
        "is_order": ["thing"],
        "product_number": ["product"],
        "divisors_of": ["product"],
        "product_at": ["degree", "number"],
        "row_of": ["order"],
        "is_low_order": ["order"],
        "pushed_order": ["order", "i", "j"],
    },
    "holerows.productrows": {
        "judge_row": ["row"],
        "row_holds": ["row", "thing"],
        "first_order": ["row"],
        "h_row": ["counts"],
        "counts_of_h": ["numbers"],
        "most_behind": ["number", "degree", "steps"],
    },
    "holerows.sound": {
        "is_sound": ["family", "p"],
        "judge_sound": ["family", "p"],
        "sound_holds": ["family", "p", "thing"],
        "depth_of": ["family", "p"],
        "judge_sound_counts": ["counts"],
        "sound_counts_hold": ["counts", "thing"],
        "pure_first": ["counts"],
    },
    "holerows.shellings": {
        "is_shelling": ["family", "thing"],
        "new_faces": ["family", "facets"],
        "a_shelling": ["family"],
    },
    "holerows.colours": {
        "lower_spread": ["number", "size", "r"],
        "spread_cascade": ["number", "size", "r"],
        "judge_colours": ["counts", "r"],
        "colours_hold": ["counts", "r", "thing"],
        "first_coloured": ["counts", "r"],
        "is_colouring": ["family", "r", "thing"],
        "a_colouring": ["family", "r"],
    },
    "holerows.balanced": {
        "full_family": ["family"],
        "judge_balanced": ["counts"],
        "balanced_hold": ["counts", "thing"],
        "first_balanced": ["counts"],
    },
    "holerows.spheres": {
        "is_round": ["family", "p"],
        "judge_round": ["family", "p"],
        "round_holds": ["family", "p", "thing"],
        "judge_sphere": ["counts"],
        "sphere_holds": ["counts", "thing"],
        "first_ball": ["counts"],
        "first_sphere": ["counts"],
        "least_sphere": ["n", "d"],
        "most_sphere": ["n", "d"],
    },
    "holerows.flips": {
        "flips_of": ["family"],
        "flipped": ["family", "face", "other"],
    },
    "holerows.asks": {
        "is_ask": ["thing"],
        "is_answer": ["ask", "thing"],
        "answers": ["ask", "greatest"],
        "sum_number": ["ask"],
        "ends_of": ["ask"],
    },
}

# The parameters behind a star, which are passed by name only, and their values if they are left out.
BY_NAME_ONLY = {"all_hole_rows": {"most": 200}, "answers": {"most": 200}}

# For each function: arguments that are right, and what comes.
RIGHT = {
    "cascade_of": ((8, 3), (4, 3, 1)),
    "lower_sets": ((8, 3), 10),
    "upper_sets": ((8, 3), 2),
    "lower_products": ((8, 3), 6),
    "upper_products": ((8, 3), 10),
    "is_cascade": ((3, (4, 3, 1)), True),
    "number_of": ((3, (4, 3, 1)), 8),
    "is_set": (((0, 4),), True),
    "is_family": ((((0, 1), (2,)),), True),
    "family_of": ((((2,), (1, 2), (0,)),), ((0,), (1, 2))),
    "counts_of": ((((0, 1), (2,)),), (3, 1)),
    "euler_of": ((((0, 1), (2,)),), 1),
    "parts_of": ((((0, 2), (1,)),), ((0, 2), (1,))),
    "family_text": ((((0, 2), (1,)),), "02 1"),
    "faces_of": ((((0, 2), (1,)), 2), ((0, 2),)),
    "is_face": ((((0, 2), (1,)), (0, 1)), False),
    "read_family": (("02 1",), ((0, 2), (1,))),
    "link_of": ((((0, 2), (1,)), (2,)), ((0,), ((0,),))),
    "without": ((((0, 2), (1,)), (1,)), ((0, 2), ((0, 1),))),
    "mirror_of": ((((0, 2), (1,)),), ((0, 2), ((0,), (1,)))),
    "skeleton_of": ((((0, 2), (1,)), 1), ((0,), (1,), (2,))),
    "cone_of": ((((0, 2), (1,)),), ((0, 2, 3), (1, 3))),
    "hung_of": ((((0,),),), ((0, 1), (0, 2))),
    "join_of": ((((0,),), ((0,), (1,))), ((0, 1), (0, 2))),
    "beside": ((((0,),), ((0, 1),)), ((0,), (1, 2))),
    "renamed": ((((0, 2), (1,)), (1, 2, 0)), ((0, 1), (2,))),
    "set_number": (((0, 2, 3),), 2),
    "set_at": ((3, 2), (0, 2, 3)),
    "first_sets": ((2, 3), ((0, 1), (0, 2), (1, 2))),
    "shadow_of": ((((0, 2), (0, 1)),), ((0,), (1,), (2,))),
    "is_counts": (((4, 5, 9),), True),
    "judge_counts": (((4, 5, 2),), ("fits", (4, 5))),
    "counts_hold": (((4, 5, 3), ("size", 2)), True),
    "first_family": (((3, 2),), ((0, 1), (0, 2))),
    "pushed": ((((0, 1), (2, 3)), 0, 2), ((0, 1), (0, 3), (2,))),
    "is_low": ((((0, 1), (2, 3)),), False),
    "low_form": ((((0, 1), (2, 3)),), ((0, 1), (0, 2), (3,))),
    "low_holes": ((((0, 1), (2, 3)),), (2, 1)),
    "is_chain": ((((0, 1),), 3, 2, (((0, 1), 2),)), True),
    "rim_of": ((((0, 1),), 3, (((0, 1), 2),)), (((0,), 1), ((1,), 2))),
    "is_cycle": ((((0, 1),), 3, (((0, 1), 2),)), False),
    # Over 2 there is no other filling, and without holes there is nothing to show.
    "judge_cycle": ((((0, 1),), 2, (((0,), 1), ((1,), 1))), ("fills", 1, (((0, 1), 1),))),
    "cycle_holds": ((((0,), (1,)), 2, (((0,), 1), ((1,), 1)), ("cut", (((1,), 1),))), True),
    "holes_of": ((((0, 1), (2,)), 2), (1, 0)),
    "hole_pairs": ((((0, 1), (2,)), 2, 2), ((), ())),
    "pairs_hold": ((((0, 1), (2,)), 2, 2, ((), ())), True),
    "rests_of": (((4, 5, 1), (0, 1, 0)), (1, 3, 1, 0)),
    "judge_rows": (((4, 5, 1), (0, 1, 0)), ("fits", (1, 3, 1, 0))),
    "rows_hold": (((4, 4, 3), (0, 0, 2), ("size", 2)), True),
    "near_cone": (((4, 5, 1), (0, 1, 0)), ((0, 1, 2), (0, 3), (1, 3))),
    "lids_of": (((4, 5, 1), (0, 1, 0)), ((1, 3),)),
    "least_rests": (((4, 5, 1),), (1, 3, 1, 0)),
    "most_holes": (((4, 5, 1),), (0, 1, 0)),
    "least_holes": (((4, 3),), (0, 0)),
    "has_hole_row": (((4, 3), (1, 1)), True),
    "many_hole_rows": (((4, 3),), 2),
    "all_hole_rows": (((4, 3),), ((0, 0), (1, 1))),
    "least_counts": (((1, 0, 1),), (5, 6, 4)),
    "join_counts": (((3, 3), (1,)), (4, 6, 3)),
    "join_holes": (((0, 1), (2,)), (0, 0, 2)),
    "is_product": (((0, 0, 2),), True),
    "is_order": ((((), (0,), (0, 0)),), True),
    "product_number": (((0, 1, 1),), 2),
    "divisors_of": (((0, 1, 1),), ((0, 1), (1, 1))),
    "product_at": ((2, 4), (1, 2)),
    "row_of": ((((), (0,), (0, 0), (1,)),), (1, 2, 1)),
    "is_low_order": ((((), (0,), (0, 0), (1,)),), True),
    "pushed_order": ((((), (1,), (1, 1)), 0, 1), ((), (0,), (0, 0))),
    "judge_row": (((1, 3, 4, 2),), ("fits", (6, 5))),
    "row_holds": (((1, 0, 1), ("degree", 1)), True),
    "first_order": (((1, 2, 1),), ((), (0,), (0, 0), (1,))),
    "h_row": (((4, 5, 2),), (1, 1, 0, 0)),
    "counts_of_h": (((1, 1, 0, 0),), (4, 5, 2)),
    "most_behind": ((3, 2, 2), 5),
    "is_sound": ((((0, 1), (2, 3)), 5), False),
    "judge_sound": ((((0, 1), (2, 3)), 2), ("face", (), 0)),
    "sound_holds": ((((0, 1), (2, 3)), 3, ("face", (), 0)), True),
    "depth_of": ((((0, 1, 2), (2, 3)), 2), 2),
    "judge_sound_counts": (((3, 1),), ("below", 2)),
    "sound_counts_hold": (((3, 1), ("below", 2)), True),
    "pure_first": (((4, 5, 2),), ((0, 1, 2), (0, 1, 3))),
    "is_shelling": ((((0, 1), (2, 3)), ((0, 1), (2, 3))), False),
    "new_faces": ((((0, 1), (0, 2)), ((0, 2), (0, 1))), ((), (1,))),
    "a_shelling": ((((0, 1), (2, 3)),), None),
    "lower_spread": ((5, 2, 3), 4),
    "spread_cascade": ((5, 2, 2), (4, 1)),
    "judge_colours": (((3, 3), 2), ("size", 1)),
    "colours_hold": (((3, 3, 1), 2, ("size", 2)), True),
    "first_coloured": (((4, 4), 2), ((0, 1), (0, 3), (1, 2), (2, 3))),
    "is_colouring": ((((0, 1), (1, 2)), 2, (0, 1, 0)), True),
    "a_colouring": ((((0, 1), (0, 2), (1, 2)), 2), None),
    "full_family": ((((0, 1), (0, 2), (1, 2), (2, 3)),), ((0, 1, 2), (2, 3))),
    "judge_balanced": (((3, 3),), ("size", 1)),
    "balanced_hold": (((4, 4), ("fits", (1, 2, 1))), True),
    "first_balanced": (((4, 4),), ((0, 1), (0, 3), (1, 2), (2, 3))),
    "is_round": ((((0, 1), (1, 2)), 2), False),
    "judge_round": ((((0, 1), (0, 2), (1, 2)), 7), ("round",)),
    "round_holds": ((((0, 1), (1, 2)), 3, ("face", (0,))), True),
    "judge_sphere": (((5, 8, 5),), ("unequal", 1)),
    "sphere_holds": (((5, 9, 6), ("fits", (1, 1))), True),
    "first_ball": (((5, 9, 6),), ((0, 1, 2, 3), (0, 1, 3, 4))),
    "first_sphere": (((4, 4),), ((0, 1), (0, 3), (1, 2), (2, 3))),
    "least_sphere": ((7, 4), (7, 18, 22, 11)),
    "most_sphere": ((7, 4), (7, 21, 28, 14)),
    "flips_of": ((((0, 1), (0, 2), (1, 2)),), (((0, 1), (3,)), ((0, 2), (3,)), ((1, 2), (3,)))),
    "flipped": ((((0, 1), (0, 2), (1, 2)), (0, 1), (3,)), ((0, 2), (0, 3), (1, 2), (1, 3))),
    "is_ask": ((("sets", (4, 5)),), False),
    "is_answer": ((("sets", (4, None, 1)), (5,)), True),
    "answers": ((("sets", (4, None, 1)), 5), ((3,), (4,), (5,))),
    "sum_number": ((("holes", (4, 5, 1), (0, None, 0)),), 1),
    "ends_of": ((("products", (1, 3, None, 2)),), (2, 6)),
}

# The methods of the class Workshop and their parameters.
METHODS = {
    "__init__": ["self", "family"],
    "__eq__": ["self", "other"],
    "__str__": ["self"],
    "read": ["text"],
    "family": ["self"],
    "deeds": ["self"],
    "copy": ["self"],
    "do": ["self", "deed"],
    "undo": ["self"],
    "redo": ["self"],
    "counts": ["self"],
    "holes": ["self", "p"],
    "is_most": ["self"],
}


def interface():
    for module, functions in INTERFACE.items():
        for name, parameters in functions.items():
            yield module, name, parameters, getattr(importlib.import_module(module), name)


class Interface(unittest.TestCase):

    def test_each_function_is_defined_in_its_file(self):
        for module, name, _, function in interface():
            self.assertTrue(inspect.isfunction(function), name)
            self.assertEqual(function.__module__, module)
            self.assertEqual(function.__name__, name)

    def test_parameters_have_their_names_and_defaults(self):
        for _, name, parameters, function in interface():
            told = inspect.signature(function).parameters
            by_name = BY_NAME_ONLY.get(name, {})
            self.assertEqual(list(told), parameters + list(by_name), name)
            for parameter in told.values():
                if parameter.name in by_name:
                    self.assertIs(parameter.kind, inspect.Parameter.KEYWORD_ONLY)
                    self.assertEqual(parameter.default, by_name[parameter.name])
                else:
                    self.assertIs(parameter.kind, inspect.Parameter.POSITIONAL_OR_KEYWORD)
                    self.assertIs(parameter.default, inspect.Parameter.empty)

    def test_by_position_and_by_name(self):
        for _, name, parameters, function in interface():
            args, answer = RIGHT[name]
            named = dict(zip(parameters, args))
            backwards = dict(reversed(list(named.items())))
            mixed = {key: named[key] for key in parameters[1:]}
            for found in (function(*args), function(*args), function(**named), function(**backwards),
                          function(args[0], **mixed)):
                self.assertEqual(repr(found), repr(answer), name)


class Methods(unittest.TestCase):

    def test_each_method_is_defined_in_the_class(self):
        for name, parameters in METHODS.items():
            self.assertIn(name, vars(Workshop))
            told = inspect.signature(getattr(Workshop, name)).parameters
            self.assertEqual(list(told), parameters, name)
            for parameter in told.values():
                self.assertIs(parameter.default, inspect.Parameter.empty)
                self.assertIs(parameter.kind, inspect.Parameter.POSITIONAL_OR_KEYWORD)
        self.assertIsInstance(vars(Workshop)["read"], classmethod)
        self.assertEqual([Workshop.__module__, Workshop.__bases__], ["holerows.workshops", (object,)])

    def test_by_position_and_by_name(self):
        shop = Workshop(family=((0, 1), (0, 2), (1, 2)))
        self.assertIsNone(shop.do(deed=("put", (1, 2, 3))))
        self.assertIsNone(shop.do(("push", 0, 3)))
        self.assertEqual(shop.deeds(), (("put", (1, 2, 3)), ("push", 0, 3)))
        self.assertIsNone(shop.undo())
        self.assertEqual(shop.family(), ((0, 1), (0, 2), (1, 2, 3)))
        self.assertEqual([shop.counts(), shop.holes(2), shop.holes(p=2)], [(4, 5, 1), (0, 1, 0), (0, 1, 0)])
        self.assertEqual([str(shop), shop.is_most()], ["workshop 01 02 123", True])
        self.assertIsNone(shop.redo())
        self.assertEqual(shop.family(), ((0, 1, 2), (1, 3), (2, 3)))
        self.assertIs(shop.copy() == shop, True)
        for read in (Workshop.read("workshop 0"), Workshop.read(text="workshop 0")):
            self.assertEqual(read.family(), ((0,),))


class Form(unittest.TestCase):

    def sources(self):
        return sorted(path for path in PACKAGE.rglob("*") if path.is_file() and "__pycache__" not in path.parts)

    def test_only_python_files(self):
        self.assertIn(PACKAGE / "__init__.py", self.sources())
        for path in self.sources():
            self.assertEqual(path.suffix, ".py", path)

    def test_sizes_and_characters(self):
        for path in self.sources():
            text = path.read_bytes().decode("ascii")
            self.assertTrue(all(sign == "\n" or " " <= sign <= "~" for sign in text), path)
            rows = text.split("\n")
            self.assertLessEqual(len(rows), 399, path)
            self.assertLessEqual(max(map(len, rows)), 120, path)
            for node in ast.walk(ast.parse(text)):
                if isinstance(node, ast.FunctionDef):
                    self.assertLessEqual(node.end_lineno - node.lineno + 1, 40, (path, node.name))

    def test_imports_are_of_the_package_or_allowed(self):
        allowed = {"math": {"comb", "gcd"}, "itertools": {"combinations"}}
        for path in self.sources():
            for node in ast.walk(ast.parse(path.read_text())):
                self.assertNotIsInstance(node, ast.Import, path)
                if isinstance(node, ast.ImportFrom):
                    self.assertEqual(node.level, 0)
                    names = {part.name for part in node.names}
                    self.assertTrue(node.module.startswith("holerows.") or names <= allowed[node.module])


if __name__ == "__main__":
    unittest.main()
