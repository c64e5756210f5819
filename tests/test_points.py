import copy
import unittest
from itertools import product as every

from mendweights.points import (
    are_parted, farthest, gap_on, lifted, made_whole, product, square, told_by,
)

LONG = int("7" * 200)
LONG_TOO = 10 ** 199 + 9
ROWS = [((2, 1), 1), ((3, -1), 1), ((-1, 0), 0), ((-2, 4), 0)]


class NumberCase(unittest.TestCase):
    def is_number(self, answer, wanted):
        self.assertIs(type(answer), int)
        self.assertEqual(answer, wanted)

    def is_tuple(self, answer, wanted):
        self.assertIs(type(answer), tuple)
        self.assertEqual(answer, wanted)
        for number in answer:
            self.assertIs(type(number), int)


class Products(NumberCase):
    def test_product(self):
        self.is_number(product((3,), (5,)), 15)
        self.is_number(product((3,), (-5,)), -15)
        self.is_number(product((1, 2), (3, 4)), 11)
        self.is_number(product((1, -2, 3), (4, 5, -6)), -24)
        self.is_number(product((1, 2, 3, 4), (5, 6, 7, 8)), 70)
        self.is_number(product((1, 2, 3, 4, 5), (-1, 1, -1, 1, -1)), -3)
        self.is_number(product((1, 2), (2, -1)), 0)
        self.is_number(product((0, 0, 0), (7, 8, 9)), 0)

    def test_product_of_many_figures(self):
        self.is_number(product((LONG, -LONG_TOO), (LONG_TOO, 3)), LONG * LONG_TOO - 3 * LONG_TOO)
        self.is_number(product((LONG, 1), (1, -LONG)), 0)
        self.is_number(product((-LONG,), (-LONG,)), LONG * LONG)

    def test_product_either_way_round(self):
        for one in every((-2, 0, 3), repeat=3):
            self.assertEqual(product(one, (5, -7, 1)), product((5, -7, 1), one))

    def test_square(self):
        self.is_number(square((0,)), 0)
        self.is_number(square((-3,)), 9)
        self.is_number(square((3, 4)), 25)
        self.is_number(square((1, -2, 3)), 14)
        self.is_number(square((-1, -2, -3, -4)), 30)
        self.is_number(square((1000, -1000, 1000, -1000, 1)), 4000001)
        self.is_number(square((LONG, -LONG_TOO)), LONG * LONG + LONG_TOO * LONG_TOO)

    def test_lifted(self):
        self.is_tuple(lifted((0,)), (0, 1))
        self.is_tuple(lifted((5, -6)), (5, -6, 1))
        self.is_tuple(lifted((1, 2, 3)), (1, 2, 3, 1))
        self.is_tuple(lifted((-1000, 1000, 0, 7)), (-1000, 1000, 0, 7, 1))
        self.is_tuple(lifted((-LONG,)), (-LONG, 1))

    def test_told_by(self):
        self.is_number(told_by((2, 3), (5,)), 13)
        self.is_number(told_by((2, -3), (-5,)), -13)
        self.is_number(told_by((1, 2, 3), (4, 5)), 17)
        self.is_number(told_by((1, 2, 3, -40), (4, 5, 6)), -8)
        self.is_number(told_by((1, -1, 1, -1, 10), (1, 2, 3, 4)), 8)
        self.is_number(told_by((0, 0, -7), (4, 5)), -7)
        self.is_number(told_by((1, 1, -9), (4, 5)), 0)

    def test_told_by_weights_of_many_figures(self):
        self.is_number(told_by((LONG, -LONG_TOO, 4), (-2, 3)), -2 * LONG - 3 * LONG_TOO + 4)
        self.is_number(told_by((LONG, -3 * LONG), (3,)), 0)


class Parted(unittest.TestCase):
    def test_rows_of_both_sides(self):
        self.assertIs(are_parted(ROWS, (1, 0, 0)), True)
        self.assertIs(are_parted(ROWS, (-1, 0, 0)), False)
        self.assertIs(are_parted(ROWS, (0, 1, 0)), False)

    def test_each_row_counts(self):
        self.assertIs(are_parted(ROWS + [((0, 9), 1)], (1, 0, 0)), False)
        self.assertIs(are_parted([((1, 9), 0)] + ROWS, (1, 0, 0)), False)
        self.assertIs(are_parted(ROWS[:2] + [((-1, 0), 1)] + ROWS[2:], (1, 0, 0)), False)

    def test_the_constant_counts(self):
        rows = [((5,), 1), ((3,), 0)]
        self.assertIs(are_parted(rows, (1, -4)), True)
        self.assertIs(are_parted(rows, (1, 0)), False)
        self.assertIs(are_parted(rows, (1, -6)), False)

    def test_rows_of_one_side(self):
        self.assertIs(are_parted([((4,), 1), ((-4,), 1)], (0, 1)), True)
        self.assertIs(are_parted([((4,), 1), ((-4,), 1)], (0, -1)), False)
        self.assertIs(are_parted([((4,), 0), ((-4,), 0)], (0, -1)), True)
        self.assertIs(are_parted([((4,), 0), ((-4,), 0)], (0, 1)), False)

    def test_a_product_of_0_parts_neither_side(self):
        self.assertIs(are_parted([((4,), 1)], (1, -4)), False)
        self.assertIs(are_parted([((4,), 0)], (1, -4)), False)
        self.assertIs(are_parted([((5,), 1), ((4,), 0)], (1, -4)), False)
        self.assertIs(are_parted([((5, 6), 1)], (0, 0, 0)), False)

    def test_no_rows_are_parted_by_any_weights(self):
        for weights in ((0, 0), (1, -1), (-5, 3, 2), (0, 0, 0, 0, 0)):
            with self.subTest(weights=weights):
                self.assertIs(are_parted([], weights), True)

    def test_the_same_row_twice_and_a_point_of_both_sides(self):
        self.assertIs(are_parted([((4,), 1), ((4,), 1)], (1, 0)), True)
        for weights in every((-1, 0, 1), repeat=2):
            self.assertIs(are_parted([((4,), 1), ((4,), 0)], weights), False)

    def test_weights_of_many_figures(self):
        rows = [((1000, 1), 1), ((1000, 0), 0)]
        self.assertIs(are_parted(rows, (LONG, 2, -1000 * LONG - 1)), True)
        self.assertIs(are_parted(rows, (LONG, 1, -1000 * LONG - 1)), False)

    def test_four_coordinates(self):
        rows = [((1, 1, 1, 1), 1), ((1, 1, 1, 0), 0), ((0, 1, 1, 1), 0)]
        self.assertIs(are_parted(rows, (2, 2, 2, 2, -7)), True)
        self.assertIs(are_parted(rows, (2, 2, 2, 2, -6)), False)


class Gaps(NumberCase):
    def test_above_0(self):
        self.is_number(gap_on(ROWS, (1, 0, 0)), 1)
        self.is_number(gap_on(ROWS, (5, 0, 0)), 5)
        self.is_number(gap_on([((2,), 1), ((3,), 1)], (4, 1)), 9)
        self.is_number(gap_on([((2,), 0), ((3,), 0)], (-4, 1)), 7)

    def test_at_0(self):
        self.is_number(gap_on(ROWS + [((0, 5), 1)], (1, 0, 0)), 0)
        self.is_number(gap_on(ROWS + [((0, 5), 0)], (1, 0, 0)), 0)
        self.is_number(gap_on(ROWS, (0, 0, 0)), 0)

    def test_below_0(self):
        self.is_number(gap_on(ROWS, (-1, 0, 0)), -3)
        self.is_number(gap_on(ROWS, (1, 0, 4)), -3)
        self.is_number(gap_on([((7,), 0)], (1, 1)), -8)
        self.is_number(gap_on([((7,), 1)], (-1, -1)), -8)

    def test_one_row(self):
        self.is_number(gap_on([((2, 3), 1)], (1, 1, 1)), 6)
        self.is_number(gap_on([((2, 3), 0)], (1, 1, 1)), -6)

    def test_many_figures(self):
        self.is_number(gap_on([((3,), 1), ((-2,), 0)], (LONG, LONG_TOO)), 2 * LONG - LONG_TOO)

    def test_above_0_just_where_the_rows_are_parted(self):
        for weights in every((-2, -1, 0, 1, 2), repeat=3):
            with self.subTest(weights=weights):
                self.assertIs(gap_on(ROWS, weights) > 0, are_parted(ROWS, weights))


class Farthest(NumberCase):
    def test_no_rows(self):
        self.is_number(farthest([]), 0)

    def test_one_row(self):
        self.is_number(farthest([((0,), 0)]), 1)
        self.is_number(farthest([((-3, 4), 1)]), 26)

    def test_several_rows(self):
        self.is_number(farthest(ROWS), 21)
        self.is_number(farthest(list(reversed(ROWS))), 21)
        self.is_number(farthest([((1,), 1), ((-5,), 0), ((4,), 1)]), 26)

    def test_the_side_is_nothing_to_it(self):
        for side in (0, 1, 4):
            self.is_number(farthest([((1, 2, 3, 4), side), ((0, 0, 0, 0), 1)]), 31)

    def test_many_figures(self):
        self.is_number(farthest([((-LONG,), 0), ((2,), 1)]), LONG * LONG + 1)


class MadeWhole(NumberCase):
    def test_unlike_bottoms(self):
        self.is_tuple(made_whole(((1, 2), (1, 3))), (3, 2))
        self.is_tuple(made_whole(((1, 4), (-5, 6))), (3, -10))
        self.is_tuple(made_whole(((1, 2), (2, 3), (-3, 4))), (6, 8, -9))
        self.is_tuple(made_whole(((1, 6), (1, 10), (1, 15))), (5, 3, 2))

    def test_like_bottoms(self):
        self.is_tuple(made_whole(((1, 3), (2, 3))), (1, 2))
        self.is_tuple(made_whole(((-1, 7), (5, 7))), (-1, 5))

    def test_a_common_factor_in_the_tops(self):
        self.is_tuple(made_whole(((2, 3), (4, 5))), (5, 6))
        self.is_tuple(made_whole(((6, 1), (-9, 1), (12, 1))), (2, -3, 4))
        self.is_tuple(made_whole(((-4, 1), (-6, 1))), (-2, -3))
        self.is_tuple(made_whole(((5, 2), (15, 4))), (2, 3))

    def test_whole_ones_without_a_common_factor_stay(self):
        self.is_tuple(made_whole(((3, 1), (-5, 1), (7, 1))), (3, -5, 7))

    def test_one_alone(self):
        self.is_tuple(made_whole(((2, 3),)), (1,))
        self.is_tuple(made_whole(((-8, 1),)), (-1,))
        self.is_tuple(made_whole(((0, 1),)), (0,))

    def test_noughts_among_them(self):
        self.is_tuple(made_whole(((0, 1), (1, 2), (0, 1))), (0, 1, 0))
        self.is_tuple(made_whole(((4, 1), (0, 1), (6, 5))), (10, 0, 3))
        self.is_tuple(made_whole(((0, 1), (-3, 1))), (0, -1))

    def test_all_nought(self):
        for many in range(1, 6):
            self.is_tuple(made_whole(((0, 1),) * many), (0,) * many)

    def test_many_figures(self):
        self.is_tuple(made_whole(((LONG, 2), (LONG, 3))), (3, 2))
        self.is_tuple(made_whole(((1, LONG_TOO), (-1, LONG_TOO + 1))), (LONG_TOO + 1, -LONG_TOO))


class HandedIn(unittest.TestCase):
    def test_rows_stay_as_they_were_and_answers_are_alike(self):
        askings = [
            lambda rows: are_parted(rows, (1, 0, 0)), lambda rows: are_parted(rows, (0, 1, 0)),
            lambda rows: gap_on(rows, (1, 0, 0)), lambda rows: farthest(rows),
        ]
        for place, asking in enumerate(askings):
            with self.subTest(place=place):
                rows = copy.deepcopy(ROWS)
                first = asking(rows)
                self.assertEqual(rows, ROWS)
                self.assertEqual(asking(rows), first)
                self.assertEqual(rows, ROWS)

    def test_a_list_without_rows_stays_so(self):
        rows = []
        are_parted(rows, (1, 1))
        farthest(rows)
        self.assertEqual(rows, [])

    def test_nothing_of_earlier_rows_is_kept(self):
        rows = [((9, 9), 1)]
        farthest(rows)
        rows.append(((-20, 0), 0))
        self.assertEqual(farthest(rows), 401)
        self.assertEqual(gap_on(rows, (1, 0, 0)), 9)
        self.assertEqual(farthest([]), 0)

    def test_tuples_have_like_answers(self):
        fractions = ((2, 3), (-4, 5), (0, 1))
        self.assertEqual(made_whole(fractions), made_whole(fractions))
        self.assertEqual(fractions, ((2, 3), (-4, 5), (0, 1)))
        point = (4, -5)
        self.assertEqual(lifted(point), lifted(point))
        self.assertEqual(point, (4, -5))


if __name__ == "__main__":
    unittest.main()
