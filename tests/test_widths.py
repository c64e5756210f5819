import copy
import random
import unittest
from fractions import Fraction
from itertools import product as every
from math import gcd

from mendweights.errors import NoSide, OneSide
from mendweights.points import are_parted
from mendweights.widths import holders, parting, sides_mixture, width_square

LONG = int("7" * 200)
ALL = (parting, sides_mixture, width_square, holders)
BOTH_NEEDED = (sides_mixture, width_square, holders)
CROSSED = [((0, 0), 0), ((1, 1), 0), ((0, 1), 1), ((1, 0), 1)]
APART = [((2, 1), 1), ((3, -1), 1), ((-1, 0), 0), ((-2, 4), 0)]


def points_of(rows, side):
    return [point for point, its in rows if its == side]


def mixed(rows, shares, side):
    size = len(rows[0][0])
    return [
        sum(Fraction(*share) * row[0][place] for row, share in zip(rows, shares) if row[1] == side)
        for place in range(size)
    ]


def product_of(one, other):
    return sum(first * second for first, second in zip(one, other, strict=True))


class WidthCase(unittest.TestCase):
    def is_fraction(self, one):
        self.assertIs(type(one), tuple)
        self.assertEqual([type(number) for number in one], [int, int])
        self.assertGreater(one[1], 0)
        self.assertEqual(gcd(one[0], one[1]), 1)

    def difference_by(self, rows):
        """The difference of the two mixtures, which is looked at by point 19 and shown to be the nearest one."""
        shares = sides_mixture(rows)
        self.assertIs(type(shares), list)
        self.assertEqual(len(shares), len(rows))
        for share in shares:
            self.is_fraction(share)
            self.assertGreaterEqual(share[0], 0)
        for side in (0, 1):
            self.assertEqual(sum(Fraction(*s) for s, row in zip(shares, rows) if row[1] == side), 1)
        way = [one - other for one, other in zip(mixed(rows, shares, 1), mixed(rows, shares, 0))]
        least = min(product_of(way, point) for point in points_of(rows, 1))
        greatest = max(product_of(way, point) for point in points_of(rows, 0))
        self.assertEqual(least - greatest, product_of(way, way))
        return way

    def width_by(self, rows, way):
        width = width_square(rows)
        self.is_fraction(width)
        self.assertEqual(Fraction(*width), product_of(way, way))
        return width

    def weights_by(self, rows, way):
        weights = parting(rows)
        if not any(way):
            self.assertIsNone(weights)
            return None
        self.assertIs(type(weights), tuple)
        self.assertEqual([type(number) for number in weights], [int] * (len(rows[0][0]) + 1))
        self.assertTrue(are_parted(rows, weights))
        self.assertEqual(gcd(*weights), 1)
        least = min(product_of(way, point) for point in points_of(rows, 1))
        greatest = max(product_of(way, point) for point in points_of(rows, 0))
        wanted = way + [-(least + greatest) / 2]
        place = next(place for place, number in enumerate(way) if number)
        times = weights[place] / wanted[place]
        self.assertGreater(times, 0)
        self.assertEqual([number * times for number in wanted], list(weights))
        return weights

    def holders_by(self, rows, width):
        numbers = holders(rows)
        self.assertIs(type(numbers), list)
        self.assertEqual(numbers, sorted(set(numbers)))
        self.assertTrue(all(type(number) is int and 0 <= number < len(rows) for number in numbers))
        self.assertEqual(width_square([rows[number] for number in numbers]), width)
        for number in numbers:
            others = [rows[other] for other in numbers if other != number]
            if {side for point, side in others} == {0, 1}:
                self.assertGreater(Fraction(*width_square(others)), Fraction(*width))
        return numbers

    def holds(self, rows):
        kept = copy.deepcopy(rows)
        way = self.difference_by(rows)
        width = self.width_by(rows, way)
        self.weights_by(rows, way)
        self.holders_by(rows, width)
        self.assertEqual(rows, kept)
        return Fraction(*width)


class Parting(WidthCase):
    def test_rows_of_one_side(self):
        for many in range(1, 5):
            noughts = (0,) * many
            rows = [((7,) * many, 1), ((-3,) * many, 1), ((7,) * many, 1)]
            self.assertEqual(parting(rows), noughts + (1,))
            self.assertEqual(parting(rows[:1]), noughts + (1,))
            rows = [(point, 0) for point, side in rows]
            self.assertEqual(parting(rows), noughts + (-1,))
            self.assertEqual(parting(rows[:1]), noughts + (-1,))

    def test_of_one_coordinate(self):
        self.assertEqual(parting([((3,), 1), ((1,), 0)]), (1, -2))
        self.assertEqual(parting([((1,), 1), ((3,), 0)]), (-1, 2))
        self.assertEqual(parting([((2,), 1), ((1,), 0)]), (2, -3))
        self.assertEqual(parting([((9,), 1), ((2,), 0), ((5,), 1), ((-4,), 0)]), (2, -7))
        self.assertEqual(parting([((1,), 1), ((-1,), 0)]), (1, 0))
        self.assertIsNone(parting([((1,), 1), ((1,), 0)]))
        self.assertIsNone(parting([((1,), 1), ((2,), 0), ((3,), 1)]))

    def test_of_two_coordinates(self):
        self.assertEqual(parting([((2, 0), 1), ((0, 0), 0)]), (1, 0, -1))
        self.assertEqual(parting([((1, 1), 1), ((0, 0), 0), ((0, 1), 0), ((1, 0), 0)]), (2, 2, -3))
        self.assertEqual(parting([((0, 0), 0), ((0, 1), 1), ((1, 0), 1), ((1, 1), 1)]), (2, 2, -1))
        self.assertIsNone(parting(CROSSED))
        self.assertEqual(parting([((0, 3), 1), ((0, -3), 1), ((4, 0), 0)]), (-1, 0, 2))

    def test_of_four_coordinates(self):
        rows = [(bits, int(all(bits))) for bits in every((0, 1), repeat=4)]
        self.assertEqual(parting(rows), (2, 2, 2, 2, -7))
        rows = [(bits, sum(bits) % 2) for bits in every((0, 1), repeat=4)]
        self.assertIsNone(parting(rows))

    def test_the_same_row_twice(self):
        self.assertEqual(parting([((3,), 1), ((1,), 0), ((3,), 1), ((1,), 0), ((1,), 0)]), (1, -2))

    def test_many_figures(self):
        self.assertEqual(parting([((LONG,), 1), ((LONG - 1,), 0)]), (2, 1 - 2 * LONG))
        self.assertEqual(parting([((LONG, LONG), 1), ((-LONG, -LONG), 0)]), (1, 1, 0))
        self.assertIsNone(parting([((LONG, 5), 1), ((0, 5), 1), ((1, 5), 0)]))


class Mixtures(WidthCase):
    def test_where_the_rows_cannot_be_parted_they_meet(self):
        self.assertEqual(sides_mixture(CROSSED), [(1, 2)] * 4)
        self.assertEqual(sides_mixture([((1,), 1), ((2,), 0), ((5,), 1)]), [(3, 4), (1, 1), (1, 4)])
        for rows in (CROSSED, [((4, 4), 1), ((4, 4), 0)], [((1,), 1), ((2,), 0), ((5,), 1)]):
            shares = sides_mixture(rows)
            self.assertEqual(mixed(rows, shares, 0), mixed(rows, shares, 1))
            self.assertIsNone(parting(rows))

    def test_of_parted_rows(self):
        self.assertEqual(sides_mixture([((3,), 1), ((1,), 0)]), [(1, 1), (1, 1)])
        self.assertEqual(sides_mixture([((0,), 0), ((1,), 0), ((4,), 1)]), [(0, 1), (1, 1), (1, 1)])
        self.assertEqual(sides_mixture([((0, 3), 1), ((0, -3), 1), ((4, 0), 0)]), [(1, 2), (1, 2), (1, 1)])
        self.assertEqual(sides_mixture([((0, 3), 1), ((4, 0), 0), ((0, -1), 1)]), [(1, 4), (1, 1), (3, 4)])

    def test_weights_or_one_point_and_never_both(self):
        seen = set()
        for sides in every((0, 1), repeat=6):
            rows = list(zip(every((0, 1, 3), (0, 2)), sides))
            if set(sides) == {0, 1}:
                shares = sides_mixture(rows)
                meet = mixed(rows, shares, 0) == mixed(rows, shares, 1)
                self.assertIs(parting(rows) is None, meet)
                seen.add(meet)
        self.assertEqual(seen, {True, False})


class Widths(WidthCase):
    def test_some(self):
        self.assertEqual(width_square([((3,), 1), ((1,), 0)]), (4, 1))
        self.assertEqual(width_square([((1, 1), 1), ((0, 0), 0), ((0, 1), 0), ((1, 0), 0)]), (1, 2))
        self.assertEqual(width_square(CROSSED), (0, 1))
        self.assertEqual(width_square([((1, 1, 1), 1), ((1, 1, 0), 0), ((0, 1, 1), 0), ((1, 0, 1), 0)]), (1, 3))
        self.assertEqual(width_square([((0, 3), 1), ((0, -3), 1), ((4, 0), 0)]), (16, 1))
        self.assertEqual(width_square([((LONG,), 1), ((-LONG,), 0)]), (4 * LONG * LONG, 1))

    def test_no_weights_show_a_wider_one(self):
        for rows in (APART, [((1, 1), 1), ((0, 0), 0), ((0, 1), 0)], [((5, 2), 0), ((4, 7), 1), ((-3, 6), 1)]):
            top, bottom = width_square(rows)
            for way in every(range(-6, 7), repeat=2):
                least = min(product_of(way, point) for point in points_of(rows, 1))
                greatest = max(product_of(way, point) for point in points_of(rows, 0))
                if least > greatest:
                    self.assertLessEqual((least - greatest) ** 2 * bottom, top * product_of(way, way))
            way = parting(rows)[:2]
            least = min(product_of(way, point) for point in points_of(rows, 1))
            greatest = max(product_of(way, point) for point in points_of(rows, 0))
            self.assertEqual((least - greatest) ** 2 * bottom, top * product_of(way, way))


class Holders(WidthCase):
    def test_some(self):
        self.assertEqual(holders([((3,), 1), ((1,), 0)]), [0, 1])
        self.assertEqual(holders([((9,), 1), ((2,), 0), ((5,), 1), ((-4,), 0)]), [1, 2])
        self.assertEqual(holders(CROSSED), [0, 1, 2, 3])
        self.assertEqual(holders([((0, 3), 1), ((0, -3), 1), ((4, 0), 0), ((9, 0), 0)]), [0, 1, 2])
        self.assertEqual(holders([((0, 0), 1), ((0, -3), 1), ((4, 0), 0), ((9, 0), 0)]), [0, 2])

    def test_the_same_row_twice(self):
        rows = [((3,), 1), ((3,), 1), ((1,), 0), ((1,), 0)]
        numbers = self.holders_by(rows, (4, 1))
        self.assertEqual([rows[number] for number in numbers], [((3,), 1), ((1,), 0)])

    def test_one_point_of_both_sides(self):
        rows = [((2, 2), 0), ((5, 5), 1), ((2, 2), 1), ((-1, 0), 0)]
        self.assertEqual(self.holders_by(rows, (0, 1)), [0, 2])

    def test_more_with_a_share_than_are_needed(self):
        # The way between the two sides can be held by any of several pairs that stand across from one another.
        rows = [((0, number), 0) for number in range(5)] + [((4, number), 1) for number in range(5)]
        self.assertEqual(len(self.holders_by(rows, (16, 1))), 2)
        rows = [(bits, bits[0]) for bits in every((0, 1), repeat=4)]
        self.assertEqual(len(self.holders_by(rows, (1, 1))), 2)


class AllTogether(WidthCase):
    def test_some(self):
        self.assertEqual(self.holds(APART), Fraction(*width_square(APART)))
        self.assertEqual(self.holds(CROSSED), 0)
        self.assertEqual(self.holds(CROSSED * 7), 0)
        self.assertEqual(self.holds([((1000,) * 4, 1), ((-1000,) * 4, 0)]), 16000000)

    def test_all_of_three_points_on_a_line(self):
        for coordinates in every(range(4), repeat=4):
            for sides in ((0, 1, 0, 1), (1, 1, 1, 0), (0, 1, 1, 0)):
                self.holds([((number,), side) for number, side in zip(coordinates, sides)])

    def test_all_tables_of_three_inputs(self):
        for sides in every((0, 1), repeat=8):
            if set(sides) == {0, 1}:
                self.holds(list(zip(every((0, 1), repeat=3), sides)))

    def test_many_of_many_kinds(self):
        source = random.Random(41)
        parted = 0
        for turn in range(160):
            many, how_many = source.randint(1, 4), source.randint(2, 12)
            reach = source.choice((1, 3, 30, 1000))
            rows = [
                (tuple(source.randint(-reach, reach) for place in range(many)), source.randrange(2))
                for one in range(how_many)
            ]
            rows.append((rows[0][0], rows[0][1]))
            if {side for point, side in rows} == {0, 1}:
                parted += self.holds(rows) > 0
        self.assertGreater(parted, 20)

    def test_thirty_rows_that_are_parted(self):
        source = random.Random(42)
        for many in range(1, 5):
            for turn in range(3):
                weights = [source.randint(1, 9) for place in range(many)] + [source.randint(-9, 9)]
                rows = []
                while len(rows) < 30:
                    point = tuple(source.randint(-1000, 1000) for place in range(many))
                    number = product_of(weights, point + (1,))
                    if number != 0:
                        rows.append((point, int(number > 0)))
                self.assertGreater(self.holds(rows), 0)

    def test_thirty_rows_that_are_not(self):
        source = random.Random(43)
        for many in range(1, 5):
            rows = [(tuple(source.randint(-1000, 1000) for place in range(many)), one % 2) for one in range(30)]
            self.assertEqual(self.holds(rows), 0)

    def test_many_figures(self):
        source = random.Random(44)
        for many in range(1, 5):
            rows = [
                (tuple(source.randint(-LONG, LONG) for place in range(many)), one % 2) for one in range(8)
            ]
            self.holds(rows)
        self.holds([((LONG, 0, 1), 1), ((LONG, 1, 1), 0), ((LONG + 1, 0, 1), 0)])


class Refused(unittest.TestCase):
    def test_rows_of_one_side(self):
        for side in (0, 1):
            for rows in ([((1, 2), side)], [((1, 2), side), ((3, 4), side)], [((1, 2), side)] * 3):
                for asking in BOTH_NEEDED:
                    with self.subTest(asking=asking.__name__, rows=rows):
                        with self.assertRaises(OneSide):
                            asking(rows)

    def test_a_side_that_there_is_not(self):
        for side in (-1, 2, 3, LONG, -LONG):
            for asking in ALL:
                for rows in (
                    [((1, 2), 0), ((3, 4), 1), ((5, 6), side)],
                    [((1, 2), side), ((3, 4), 1), ((5, 6), 0)],
                    [((1, 2), side)], [((1, 2), 0), ((3, 4), side)], [((1, 2), side), ((3, 4), 1)],
                ):
                    with self.subTest(asking=asking.__name__, rows=rows):
                        with self.assertRaises(NoSide):
                            asking(rows)


class HandedIn(unittest.TestCase):
    def test_rows_stay_as_they_were(self):
        for rows in (APART, CROSSED, [((1, 2), 1)], [((1, 2), 1), ((1, 3), 5)]):
            for asking in ALL:
                handed = copy.deepcopy(rows)
                try:
                    asking(handed)
                except (NoSide, OneSide):
                    pass
                self.assertEqual(handed, rows)

    def test_a_list_told_may_be_changed(self):
        for rows in (APART, CROSSED):
            for asking in (sides_mixture, holders):
                first = asking(rows)
                kept = list(first)
                first[0] = None
                first.clear()
                self.assertEqual(asking(rows), kept)

    def test_like_askings_have_like_answers(self):
        for asking in ALL:
            first = asking(APART)
            asking(CROSSED)
            self.assertEqual(asking(copy.deepcopy(APART)), first)

    def test_nothing_of_earlier_rows_is_kept(self):
        rows = [((3,), 1), ((1,), 0)]
        self.assertEqual(width_square(rows), (4, 1))
        rows.append(((2,), 1))
        self.assertEqual(width_square(rows), (1, 1))
        self.assertEqual(holders(rows), [1, 2])
        rows.append(((4,), 0))
        self.assertEqual(width_square(rows), (0, 1))
        self.assertIsNone(parting(rows))


if __name__ == "__main__":
    unittest.main()
