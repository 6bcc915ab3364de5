"""The examples of the document's parts 1 and 2, as they stand there, and those of README.md."""

import doctest
import pathlib
import unittest

import holerows.errors

PART_1 = """
>>> from holerows.cascades import cascade_of, lower_sets, upper_sets, lower_products, upper_products, is_cascade, number_of
>>> [cascade_of(8, 3), lower_sets(8, 3), upper_sets(8, 3), cascade_of(0, 2), lower_sets(5, 1)]
[(4, 3, 1), 10, 2, (), 1]
>>> [lower_products(8, 3), upper_products(8, 3), upper_products(3, 1), lower_products(6, 2), upper_sets(10 ** 30, 1) == 10 ** 30 * (10 ** 30 - 1) // 2]
[6, 10, 6, 3, True]
>>> [is_cascade(3, (4, 3, 1)), is_cascade(3, (4, 4)), is_cascade(2, (3, 0)), number_of(3, (5, 2))]
[True, False, False, 11]
"""

PART_2 = """
>>> from holerows.families import family_of, counts_of, euler_of, faces_of, family_text, read_family, parts_of
>>> [family_of(((0, 1), (1, 2), (2,), ())), counts_of(((0, 1, 2), (1, 3), (2, 3))), euler_of(((0, 1, 2), (1, 3), (2, 3)))]
[((0, 1), (1, 2)), (4, 5, 1), -1]
>>> [faces_of(((0, 1), (2,)), 1), family_text(((0, 1), (2,))), read_family('-'), parts_of(((0, 1), (2,)))]
[((0,), (1,), (2,)), '01 2', (), ((0, 1), (2,))]
>>> read_family('')
raises BadText(1)
>>> from holerows.builds import link_of, without, mirror_of, cone_of, hung_of, join_of
>>> [link_of(((0, 1, 2), (1, 3), (2, 3)), (1,)), without(((0, 1, 2), (1, 3)), (1, 2)), mirror_of(((0, 1), (2,)))]
[((0, 2, 3), ((0, 1), (2,))), ((0, 1, 2, 3), ((0, 1), (0, 2), (1, 3))), ((0, 1), ((0,), (1,)))]
>>> [cone_of(((0,), (1,))), hung_of(((0,), (1,))), join_of(((0,), (1,)), ((0,),)), mirror_of(((0, 1),))]
[((0, 2), (1, 2)), ((0, 2), (0, 3), (1, 2), (1, 3)), ((0, 2), (1, 2)), None]
"""


def shown(code, names):
    """What the document shows for a row of code: its value, or the error that it raises."""
    try:
        return repr(eval(code, names))
    except holerows.errors.CountError as error:
        return f"raises {type(error).__name__}({', '.join(repr(part) for part in vars(error).values())})"


class Examples(unittest.TestCase):

    def check(self, text):
        names = {}
        rows = text.strip().split("\n")
        for at, row in enumerate(rows):
            if row.startswith(">>> from"):
                exec(row[4:], names)
            elif row.startswith(">>> "):
                self.assertEqual(shown(row[4:], names), rows[at + 1], row)

    def test_part_1(self):
        self.check(PART_1)

    def test_part_2(self):
        self.check(PART_2)

    def test_readme(self):
        readme = pathlib.Path(__file__).resolve().parent.parent / "README.md"
        done = doctest.testfile(str(readme), module_relative=False)
        self.assertEqual(done.failed, 0)
        self.assertGreater(done.attempted, 0)


if __name__ == "__main__":
    unittest.main()
