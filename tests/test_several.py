import copy
import random
import unittest
from fractions import Fraction
from itertools import product as every
from math import gcd

from mendweights.errors import MendError, NoSide
from mendweights.nearest import mixture
from mendweights.runs import sides_gap
from mendweights.several import several_mixture, several_parting, vectors_of

LONG = int("7" * 200)
ALL = (vectors_of, several_parting, several_mixture)
CORNERS = [((0, 0), 0), ((9, 0), 1), ((0, 9), 2)]
WITHIN = CORNERS + [((3, 3), 0), ((1, 1), 1)]
TWICE = [((4, -2), 2), ((0, 1), 0), ((4, -2), 1)]


def vectors_by_places(rows, sides):
    """The vectors of point 22, made place by place."""
    vectors = []
    for point, side in rows:
        for other in range(sides):
            if other != side:
                places = {}
                for place, number in enumerate(list(point) + [1]):
                    places[side, place] = number
                    places[other, place] = -number
                keys = every(range(sides), range(len(point) + 1))
                vectors.append(tuple(places.get(key, 0) for key in keys))
    return vectors


class SeveralCase(unittest.TestCase):
    def are_weights(self, rows, sides, weights):
        size = len(rows[0][0]) + 1
        self.assertIs(type(weights), tuple)
        self.assertEqual([type(some) for some in weights], [tuple] * sides)
        self.assertEqual([len(some) for some in weights], [size] * sides)
        numbers = [number for some in weights for number in some]
        self.assertEqual({type(number) for number in numbers}, {int})
        self.assertEqual(gcd(*numbers), 1)
        for point, side in rows:
            products = [sum(one * other for one, other in zip(some, point + (1,))) for some in weights]
            for other in range(sides):
                if other != side:
                    self.assertGreater(products[side], products[other])

    def are_shares(self, rows, sides, told):
        self.assertIs(type(told), list)
        wanted = [(number, o) for number, row in enumerate(rows) for o in range(sides) if o != row[1]]
        self.assertEqual([entry[:2] for entry in told], wanted)
        for entry in told:
            self.assertIs(type(entry), tuple)
            self.assertEqual([type(value) for value in entry], [int, int, tuple])
            self.assertEqual([type(number) for number in entry[2]], [int, int])
            self.assertGreaterEqual(entry[2][0], 0)
            self.assertGreater(entry[2][1], 0)
            self.assertEqual(gcd(*entry[2]), 1)
        shares = [Fraction(*entry[2]) for entry in told]
        self.assertEqual(sum(shares), 1)
        vectors = vectors_by_places(rows, sides)
        for numbers in zip(*vectors):
            self.assertEqual(sum(share * number for share, number in zip(shares, numbers) if share), 0)

    def holds(self, rows, sides):
        """All that points 22 and 23 tell of the rows; told is whether weights part them."""
        kept = copy.deepcopy(rows)
        self.assertEqual(vectors_of(rows, sides), vectors_by_places(rows, sides))
        weights = several_parting(rows, sides)
        told = several_mixture(rows, sides)
        self.assertEqual((weights is None) + (told is None), 1)
        if told is None:
            self.are_weights(rows, sides, weights)
        else:
            self.are_shares(rows, sides, told)
        self.assertEqual(rows, kept)
        self.assertEqual(several_parting(copy.deepcopy(rows), sides), weights)
        self.assertEqual(several_mixture(copy.deepcopy(rows), sides), told)
        return told is None


class Vectors(unittest.TestCase):
    def is_so(self, rows, sides, wanted):
        answer = vectors_of(rows, sides)
        self.assertIs(type(answer), list)
        self.assertEqual(answer, wanted)
        for vector in answer:
            self.assertIs(type(vector), tuple)
            self.assertEqual({type(number) for number in vector}, {int})

    def test_two_sides(self):
        self.is_so([((5,), 0)], 2, [(5, 1, -5, -1)])
        self.is_so([((5,), 1)], 2, [(-5, -1, 5, 1)])
        self.is_so([((5, -6), 1), ((0, 2), 0)], 2, [(-5, 6, -1, 5, -6, 1), (0, 2, 1, 0, -2, -1)])

    def test_three_sides(self):
        self.is_so([((5,), 0)], 3, [(5, 1, -5, -1, 0, 0), (5, 1, 0, 0, -5, -1)])
        self.is_so([((5,), 1)], 3, [(-5, -1, 5, 1, 0, 0), (0, 0, 5, 1, -5, -1)])
        self.is_so([((5,), 2)], 3, [(-5, -1, 0, 0, 5, 1), (0, 0, -5, -1, 5, 1)])
        self.is_so(
            [((1, 2, 3), 2), ((4, 5, 6), 0)], 3,
            [
                (-1, -2, -3, -1, 0, 0, 0, 0, 1, 2, 3, 1), (0, 0, 0, 0, -1, -2, -3, -1, 1, 2, 3, 1),
                (4, 5, 6, 1, -4, -5, -6, -1, 0, 0, 0, 0), (4, 5, 6, 1, 0, 0, 0, 0, -4, -5, -6, -1),
            ],
        )

    def test_five_sides(self):
        own, other, none = (1, 2, 3, 4, 1), (-1, -2, -3, -4, -1), (0,) * 5
        self.is_so(
            [((1, 2, 3, 4), 3)], 5,
            [
                other + none + none + own + none, none + other + none + own + none,
                none + none + other + own + none, none + none + none + own + other,
            ],
        )

    def test_the_same_row_twice(self):
        self.is_so([((7,), 1), ((7,), 1)], 2, [(-7, -1, 7, 1)] * 2)

    def test_place_by_place(self):
        source = random.Random(51)
        for sides in range(2, 6):
            for many in range(1, 5):
                for how_many in (1, 2, 30):
                    rows = [
                        (tuple(source.randint(-1000, 1000) for place in range(many)), source.randrange(sides))
                        for one in range(how_many)
                    ]
                    self.is_so(rows, sides, vectors_by_places(rows, sides))
                    self.assertEqual(len(vectors_of(rows, sides)), how_many * (sides - 1))


class Either(SeveralCase):
    def test_two_rows(self):
        self.assertEqual(several_parting([((1,), 1), ((-1,), 0)], 2), ((-1, 0), (1, 0)))
        self.assertIsNone(several_mixture([((1,), 1), ((-1,), 0)], 2))
        self.assertIsNone(several_parting([((1,), 1), ((1,), 0)], 2))
        self.assertEqual(several_mixture([((1,), 1), ((1,), 0)], 2), [(0, 0, (1, 2)), (1, 1, (1, 2))])

    def test_rows_that_weights_part(self):
        for rows, sides in (
            (CORNERS, 3), (CORNERS, 4), (CORNERS, 5), (CORNERS * 10, 5), ([((0, 0), 4)], 5),
            ([((number,), number) for number in range(5)], 5),
            ([((7, 7, 7, 7), 1), ((7, 7, 7, 6), 0)], 2), ([((1000,) * 4, 0), ((-1000,) * 4, 1)], 2),
        ):
            with self.subTest(rows=rows, sides=sides):
                self.assertTrue(self.holds(rows, sides))

    def test_rows_of_one_side_alone(self):
        for sides in range(2, 6):
            for side in range(sides):
                for points in ([(3,)], [(3, 4), (-8, 0), (0, 0)], [(0, 0, 0, 0)], [(1, 2, 3), (-1, -2, -3)]):
                    self.assertTrue(self.holds([(point, side) for point in points], sides))

    def test_the_same_point_on_two_sides(self):
        self.assertFalse(self.holds(TWICE, 3))
        self.assertFalse(self.holds(TWICE, 5))
        self.assertFalse(self.holds(CORNERS + [((9, 0), 2)], 3))
        self.assertFalse(self.holds([((0,), 0), ((0,), 1), ((0,), 2), ((0,), 3), ((0,), 4)], 5))

    def test_a_point_within_the_mixtures_of_the_others(self):
        self.assertFalse(self.holds(WITHIN, 3))
        self.assertFalse(self.holds([((0,), 0), ((1,), 1), ((2,), 0)], 2))
        self.assertFalse(self.holds([((0,), 0), ((1,), 1), ((2,), 0), ((5,), 2)], 3))
        self.assertFalse(self.holds([((0, 0), 0), ((1, 1), 0), ((0, 1), 1), ((1, 0), 1)], 2))
        square = [((0, 0), 1), ((0, 6), 1), ((6, 0), 1), ((6, 6), 1)]
        self.assertFalse(self.holds(square + [((3, 2), 0)], 2))
        self.assertTrue(self.holds(square + [((3, -1), 0)], 2))
        self.assertFalse(self.holds(square + [((3, 0), 0)], 2))

    def test_a_side_between_two_others(self):
        # Each of three points on a line has a side for itself: the middle one needs the greatest constant alone.
        self.assertTrue(self.holds([((0,), 0), ((1,), 1), ((2,), 2)], 3))
        self.assertFalse(self.holds([((0,), 0), ((1,), 1), ((2,), 2), ((3,), 1)], 3))

    def test_the_gap_is_above_nought(self):
        for rows, sides in ((CORNERS, 3), (CORNERS, 5), ([((number, 2), number) for number in range(5)], 5)):
            self.assertGreater(sides_gap(rows, several_parting(rows, sides)), 0)

    def test_the_mixture_by_the_programs_own(self):
        for rows, sides in ((WITHIN, 3), (TWICE, 3), (TWICE, 4)):
            shares = [entry[2] for entry in several_mixture(rows, sides)]
            noughts = ((0, 1),) * (sides * 3)
            self.assertEqual(mixture(vectors_of(rows, sides), shares), noughts)

    def test_all_of_four_points_on_a_line(self):
        parted = 0
        for sides in every(range(3), repeat=4):
            parted += self.holds([((number,), side) for number, side in enumerate(sides)], 3)
        # Just where each side's points stand together.
        blocks = [s for s in every(range(3), repeat=4) if all(
            s[one] == s[two] == s[three] or s[one] != s[three]
            for one in range(4) for two in range(one, 4) for three in range(two, 4)
        )]
        self.assertEqual(parted, len(blocks))

    def test_many_of_many_kinds(self):
        source = random.Random(52)
        seen = {True: 0, False: 0}
        for turn in range(150):
            sides, many, how_many = source.randint(2, 5), source.randint(1, 4), source.randint(1, 9)
            reach = source.choice((1, 3, 40, 1000))
            rows = [
                (tuple(source.randint(-reach, reach) for place in range(many)), source.randrange(sides))
                for one in range(how_many)
            ]
            seen[self.holds(rows, sides)] += 1
        self.assertGreater(min(seen.values()), 20)

    def test_thirty_rows_told_by_weights(self):
        source = random.Random(53)
        for sides in range(2, 6):
            for many in range(1, 5):
                weights = [
                    [source.randint(-9, 9) for place in range(many)] + [source.randint(-900, 900)]
                    for side in range(sides)
                ]
                rows = []
                while len(rows) < 30:
                    point = tuple(source.randint(-1000, 1000) for place in range(many))
                    products = [sum(a * b for a, b in zip(some, point + (1,))) for some in weights]
                    if products.count(max(products)) == 1:
                        rows.append((point, products.index(max(products))))
                self.assertTrue(self.holds(rows, sides))

    def test_thirty_rows_of_any_side(self):
        source = random.Random(54)
        for sides in range(2, 6):
            for many in range(1, 5):
                rows = [
                    (tuple(source.randint(-1000, 1000) for place in range(many)), one % sides) for one in range(30)
                ]
                self.assertFalse(self.holds(rows, sides))

    def test_many_figures(self):
        self.assertTrue(self.holds([((LONG, 1), 0), ((LONG, 2), 1), ((LONG - 1, 1), 2)], 3))
        self.assertFalse(self.holds([((LONG,), 0), ((0,), 1), ((2 * LONG,), 1)], 3))

    def test_somewhat_beyond(self):
        self.assertTrue(self.holds([((number,), number) for number in range(7)], 7))
        self.assertTrue(self.holds([((1, 2, 3, 4, 5), 0), ((1, 2, 3, 4, 6), 1)], 2))
        self.assertTrue(self.holds([((5, 6), 0), ((7, 8), 0)], 1))


class Refused(unittest.TestCase):
    def test_a_side_that_there_is_not(self):
        for sides in range(2, 6):
            right = [((1, 2), side) for side in range(sides)]
            for side in (-1, -2, -LONG, sides, sides + 1, 100, LONG):
                wrong = ((3, 4), side)
                for rows in ([wrong], right + [wrong], [wrong] + right, right[:1] + [wrong] + right[1:]):
                    for asking in ALL:
                        with self.subTest(asking=asking.__name__, rows=rows, sides=sides):
                            kept = copy.deepcopy(rows)
                            with self.assertRaises(NoSide) as caught:
                                asking(rows, sides)
                            self.assertIs(type(caught.exception), NoSide)
                            self.assertIsInstance(caught.exception, MendError)
                            self.assertIsInstance(caught.exception, ValueError)
                            self.assertEqual(rows, kept)

    def test_the_last_side_is_there(self):
        for sides in range(2, 6):
            for asking in ALL:
                asking([((1, 2), sides - 1), ((5, 5), 0)], sides)


class HandedIn(unittest.TestCase):
    def test_a_list_told_may_be_changed(self):
        for rows, sides in ((CORNERS, 3), (WITHIN, 3), (TWICE, 4)):
            for asking in (vectors_of, several_mixture):
                first = asking(rows, sides)
                if first is not None:
                    kept = list(first)
                    first[0] = None
                    first.clear()
                    self.assertEqual(asking(rows, sides), kept)

    def test_rows_may_be_changed_afterwards(self):
        rows = list(WITHIN)
        first = [asking(rows, 3) for asking in ALL]
        kept = copy.deepcopy(first)
        rows.clear()
        self.assertEqual(first, kept)
        self.assertEqual([asking(WITHIN, 3) for asking in ALL], kept)


if __name__ == "__main__":
    unittest.main()
