"""The examples of the document's parts 1 to 12, as they stand there, and those of README.md."""

import doctest
import pathlib
import unittest

import holerows.errors

PART_1 = """
>>> from holerows.cascades import cascade_of, lower_sets, upper_sets, lower_products, upper_products, is_cascade, number_of
>>> [cascade_of(8, 3), lower_sets(8, 3), upper_sets(8, 3), cascade_of(0, 2), lower_sets(5, 1)]
[(4, 3, 1), 10, 2, (), 1]
>>> [lower_products(8, 3), upper_products(8, 3), upper_products(3, 1), lower_products(6, 2), upper_sets(10 ** 30, 1) == 10 ** 30 * (10 ** 30 - 1) // 2]
[6, 10, 6, 3, True]
>>> [is_cascade(3, (4, 3, 1)), is_cascade(3, (4, 4)), is_cascade(2, (3, 0)), number_of(3, (5, 2))]
[True, False, False, 11]
"""

PART_2 = """
>>> from holerows.families import family_of, counts_of, euler_of, faces_of, family_text, read_family, parts_of
>>> [family_of(((0, 1), (1, 2), (2,), ())), counts_of(((0, 1, 2), (1, 3), (2, 3))), euler_of(((0, 1, 2), (1, 3), (2, 3)))]
[((0, 1), (1, 2)), (4, 5, 1), -1]
>>> [faces_of(((0, 1), (2,)), 1), family_text(((0, 1), (2,))), read_family('-'), parts_of(((0, 1), (2,)))]
[((0,), (1,), (2,)), '01 2', (), ((0, 1), (2,))]
>>> read_family('')
raises BadText(1)
>>> from holerows.builds import link_of, without, mirror_of, cone_of, hung_of, join_of
>>> [link_of(((0, 1, 2), (1, 3), (2, 3)), (1,)), without(((0, 1, 2), (1, 3)), (1, 2)), mirror_of(((0, 1), (2,)))]
[((0, 2, 3), ((0, 1), (2,))), ((0, 1, 2, 3), ((0, 1), (0, 2), (1, 3))), ((0, 1), ((0,), (1,)))]
>>> [cone_of(((0,), (1,))), hung_of(((0,), (1,))), join_of(((0,), (1,)), ((0,),)), mirror_of(((0, 1),))]
[((0, 2), (1, 2)), ((0, 2), (0, 3), (1, 2), (1, 3)), ((0, 2), (1, 2)), None]
"""

PART_3 = """
>>> from holerows.firsts import set_number, set_at, first_sets, shadow_of, judge_counts, first_family, counts_hold
>>> [set_number((0, 2, 3)), set_at(3, 2), first_sets(2, 4), shadow_of(((0, 1, 2), (0, 1, 3)))]
[2, (0, 2, 3), ((0, 1), (0, 2), (1, 2), (0, 3)), ((0, 1), (0, 2), (0, 3), (1, 2), (1, 3))]
>>> [judge_counts((4, 5, 2)), judge_counts((4, 5, 3)), judge_counts((5,)), first_family((4, 5, 2)), counts_hold((5, 10 ** 30), ('size', 1))]
[('fits', (4, 5)), ('size', 2), ('fits', ()), ((0, 1, 2), (0, 1, 3)), True]
>>> from holerows.pushes import pushed, low_form, is_low, low_holes
>>> [pushed(((0, 1), (2, 3)), 0, 2), low_form(((0, 1), (2, 3))), is_low(((0, 1), (0, 2), (1, 2))), low_holes(((0, 1), (0, 2), (1, 2)))]
[((0, 1), (0, 3), (2,)), ((0, 1), (0, 2), (3,)), True, (0, 1)]
"""

PART_4 = """
>>> from holerows.chains import rim_of, is_cycle, judge_cycle, cycle_holds, is_chain
>>> ring = ((0, 1), (0, 2), (1, 2))
>>> [rim_of(ring, 0, (((0, 1), 1), ((1, 2), 3))), is_cycle(ring, 0, (((0, 1), 1), ((0, 2), -1), ((1, 2), 1))), is_chain(ring, 2, 2, (((0, 1), 2),))]
[(((0,), -1), ((1,), -2), ((2,), 3)), True, False]
>>> [cycle_holds(ring, 2, (((0, 1), 1), ((0, 2), 1), ((1, 2), 1)), ('cut', (((0, 1), 1),))), cycle_holds(((0, 1, 2),), 3, (((0, 1), 1), ((0, 2), 2), ((1, 2), 1)), ('fills', 1, (((0, 1, 2), 1),)))]
[True, True]
>>> from holerows.holes import holes_of, pairs_hold
>>> folded = ((0, 1, 3), (0, 1, 4), (0, 2, 3), (0, 2, 5), (0, 4, 5), (1, 2, 4), (1, 2, 5), (1, 3, 5), (2, 3, 4), (3, 4, 5))
>>> [holes_of(folded, 2), holes_of(folded, 3), holes_of(((0,), (1,), (2,)), 0), holes_of((), 2), pairs_hold(ring, 0, 2, (((((0, 1), 1), ((0, 2), -1), ((1, 2), 1)),), ((((0, 1), 1),),)))]
[(0, 1, 1), (0, 0, 0), (2,), (), True]
"""

PART_5 = """
>>> from holerows.rows import rests_of, judge_rows, rows_hold, near_cone, lids_of
>>> [judge_rows((4, 5, 1), (0, 1, 0)), near_cone((4, 5, 1), (0, 1, 0)), lids_of((4, 5, 1), (0, 1, 0))]
[('fits', (1, 3, 1, 0)), ((0, 1, 2), (0, 3), (1, 3)), ((1, 3),)]
>>> [judge_rows((4, 5, 1), (0, 0, 0)), rests_of((3, 3), (0, 1)), judge_rows((2, 1), (1, 1)), near_cone((3,), (2,))]
[('sum', 0), (1, 2, 0), ('size', 1), ((0,), (1,), (2,))]
>>> [judge_rows((4, 3, 1), (1, 0, 0)), judge_rows((4, 4, 3), (0, 0, 2)), rows_hold((4, 4, 3), (0, 0, 2), ('size', 2))]
[('fits', (1, 2, 1, 0)), ('size', 2), True]
"""

PART_6 = """
>>> from holerows.ends import least_rests, most_holes, least_holes, least_counts, many_hole_rows, all_hole_rows, has_hole_row
>>> [least_rests((4, 5, 1)), most_holes((4, 5, 1)), least_holes((4, 5, 1)), many_hole_rows((4, 5, 1))]
[(1, 3, 1, 0), (0, 1, 0), (0, 1, 0), 1]
>>> [all_hole_rows((3, 3)), has_hole_row((4, 3), (1, 1)), has_hole_row((4, 3), (0, 1)), least_counts((0, 1)), least_counts((1, 0, 1)), least_counts(())]
[((0, 1),), True, False, (3, 3), (5, 6, 4), (1,)]
>>> from holerows.ends import join_counts, join_holes
>>> [join_counts((2,), (2,)), join_holes((1,), (1,)), join_counts((), (3, 3)), join_holes((0, 1), (2,))]
[(4, 4), (0, 1), (3, 3), (0, 0, 2)]
"""

PART_7 = """
>>> from holerows.products import product_number, product_at, divisors_of, row_of, pushed_order, is_order
>>> [product_number((0, 1, 1)), product_at(2, 4), divisors_of((0, 1, 1)), row_of(((), (0,), (0, 0), (1,))), is_order(((), (0, 1)))]
[2, (1, 2), ((0, 1), (1, 1)), (1, 2, 1), False]
>>> pushed_order(((), (0,), (1,), (1, 1)), 0, 1)
((), (0,), (0, 0), (1,))
>>> from holerows.productrows import judge_row, row_holds, first_order, h_row, counts_of_h, most_behind
>>> [judge_row((1, 3, 4, 2)), judge_row((1, 2, 4)), first_order((1, 2, 1)), row_holds((1, 0, 1), ('degree', 1))]
[('fits', (6, 5)), ('degree', 1), ((), (0,), (0, 0), (1,)), True]
>>> [h_row((4, 5, 2)), counts_of_h((1, 1, 0, 0)), most_behind(3, 2, 2), h_row(())]
[(1, 1, 0, 0), (4, 5, 2), 5, (1,)]
"""

PART_8 = """
>>> from holerows.sound import is_sound, judge_sound, sound_holds, depth_of, judge_sound_counts, pure_first
>>> [is_sound(((0, 1), (1, 2)), 2), sound_holds(((0, 1), (2, 3)), 0, ('face', (), 0)), depth_of(((0, 1, 2), (2, 3)), 2), judge_sound(((0,), (1,)), 5)]
[True, True, 2, ('sound',)]
>>> [judge_sound_counts((4, 5, 2)), judge_sound_counts((3, 1)), pure_first((4, 4)), pure_first((4, 5, 2))]
[('fits', (1, 1, 0, 0)), ('below', 2), ((0, 1), (0, 2), (0, 3), (1, 2)), ((0, 1, 2), (0, 1, 3))]
>>> from holerows.shellings import is_shelling, new_faces, a_shelling
>>> [is_shelling(((0, 1), (0, 2), (1, 3)), ((0, 1), (0, 2), (1, 3))), is_shelling(((0, 1), (2, 3)), ((0, 1), (2, 3))), new_faces(((0, 1), (0, 2), (1, 2)), ((0, 1), (0, 2), (1, 2))), a_shelling(((0, 1), (2, 3)))]
[True, False, ((), (2,), (1, 2)), None]
"""

PART_9 = """
>>> from holerows.colours import lower_spread, spread_cascade, judge_colours, first_coloured, is_colouring, a_colouring, colours_hold
>>> [spread_cascade(5, 2, 2), lower_spread(5, 2, 2), lower_spread(5, 2, 3), lower_spread(5, 2, 4)]
[(4, 1), 5, 4, 4]
>>> [judge_colours((3, 3), 2), judge_colours((4, 4), 2), colours_hold((3, 3, 1), 2, ('size', 2)), first_coloured((4, 4), 2)]
[('size', 1), ('fits', (4,)), True, ((0, 1), (0, 3), (1, 2), (2, 3))]
>>> [is_colouring(((0, 1), (1, 2)), 2, (0, 1, 0)), a_colouring(((0, 1), (0, 2), (1, 2)), 2), colours_hold((3, 3), 2, ('size', 1))]
[True, None, True]
>>> from holerows.balanced import full_family, judge_balanced, first_balanced, balanced_hold
>>> [full_family(((0, 1), (0, 2), (1, 2), (2, 3))), judge_balanced((4, 4)), judge_balanced((3, 3)), first_balanced((4, 4)), balanced_hold((3, 3), ('size', 1))]
[((0, 1, 2), (2, 3)), ('fits', (1, 2, 1)), ('size', 1), ((0, 1), (0, 3), (1, 2), (2, 3)), True]
"""

PART_10 = """
>>> from holerows.spheres import is_round, judge_sphere, round_holds, first_ball, first_sphere, least_sphere, most_sphere, sphere_holds
>>> [is_round(((0, 1), (0, 2), (1, 2)), 2), round_holds(((0, 1), (1, 2)), 3, ('face', (0,))), is_round(((0,), (1,)), 0)]
[True, True, True]
>>> [judge_sphere((4, 6, 4)), judge_sphere((5, 9, 6)), judge_sphere((5, 8, 5)), sphere_holds((3, 2), ('unequal', 0)), first_sphere((4, 4))]
[('fits', (1, 0)), ('fits', (1, 1)), ('unequal', 1), True, ((0, 1), (0, 3), (1, 2), (2, 3))]
>>> [first_ball((5, 9, 6)), first_sphere((5, 9, 6)), least_sphere(7, 4), most_sphere(7, 4)]
[((0, 1, 2, 3), (0, 1, 3, 4)), ((0, 1, 2), (0, 1, 4), (0, 2, 3), (0, 3, 4), (1, 2, 3), (1, 3, 4)), (7, 18, 22, 11), (7, 21, 28, 14)]
>>> from holerows.flips import flips_of, flipped
>>> [flips_of(((0, 1), (0, 2), (1, 2))), flipped(((0, 1), (0, 2), (1, 2)), (0, 1), (3,))]
[(((0, 1), (3,)), ((0, 2), (3,)), ((1, 2), (3,))), ((0, 2), (0, 3), (1, 2), (1, 3))]
"""

PART_11 = """
>>> from holerows.asks import is_ask, is_answer, answers, sum_number, ends_of
>>> [is_ask(('sets', (4, None, 1))), is_ask(('sets', (4, 5))), is_answer(('sets', (4, None, 1)), (5,)), answers(('sets', (4, None, 1)), 9)]
[True, False, True, ((3,), (4,), (5,), (6,))]
>>> [ends_of(('sets', (4, None, 1))), ends_of(('sets', (None, 5))), ends_of(('products', (1, 3, None, 2))), sum_number(('holes', (4, 5, 1), (0, None, 0))), answers(('holes', (4, None), (0, None)), 6)]
[(3, 6), (4, None), (2, 6), 1, ((3, 0), (4, 1), (5, 2), (6, 3))]
"""

PART_12 = """
>>> from holerows.workshops import Workshop
>>> shop = Workshop(((0, 1), (0, 2), (1, 2)))
>>> shop.do(('put', (1, 2, 3)))
>>> [shop.family(), shop.counts(), shop.holes(2), str(shop), shop.is_most()]
[((0, 1), (0, 2), (1, 2, 3)), (4, 5, 1), (0, 1, 0), 'workshop 01 02 123', True]
>>> shop.undo()
>>> [shop.family(), Workshop.read('workshop -').counts()]
[((0, 1), (0, 2), (1, 2)), ()]
"""


def shown(code, names):
    """What the document shows for a row of code: its value, or the error that it raises."""
    try:
        return repr(eval(code, names))
    except holerows.errors.CountError as error:
        return f"raises {type(error).__name__}({', '.join(repr(part) for part in vars(error).values())})"


class Examples(unittest.TestCase):

    def check(self, text):
        names = {}
        rows = text.strip().split("\n")
        for row, following in zip(rows, rows[1:]):
            if row.startswith(">>> ") and following.startswith(">>> "):
                # Nothing is shown for an import or a name.
                exec(row[4:], names)
            elif row.startswith(">>> "):
                self.assertEqual(shown(row[4:], names), following, row)

    def test_part_1(self):
        self.check(PART_1)

    def test_part_2(self):
        self.check(PART_2)

    def test_part_3(self):
        self.check(PART_3)

    def test_part_4(self):
        self.check(PART_4)

    def test_part_5(self):
        self.check(PART_5)

    def test_part_6(self):
        self.check(PART_6)

    def test_part_7(self):
        self.check(PART_7)

    def test_part_8(self):
        self.check(PART_8)

    def test_part_9(self):
        self.check(PART_9)

    def test_part_10(self):
        self.check(PART_10)

    def test_part_11(self):
        self.check(PART_11)

    def test_part_12(self):
        self.check(PART_12)

    def test_readme(self):
        readme = pathlib.Path(__file__).resolve().parent.parent / "README.md"
        done = doctest.testfile(str(readme), module_relative=False)
        self.assertEqual(done.failed, 0)
        self.assertGreater(done.attempted, 0)


if __name__ == "__main__":
    unittest.main()
