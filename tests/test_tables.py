import copy
import random
import unittest
from fractions import Fraction
from itertools import product as every
from math import gcd

from mendweights.errors import MendError, NoTable
from mendweights.tables import rows_of, table_mixture, table_of, table_weights, ways_of
from mendweights.widths import parting, sides_mixture

T, F = True, False
LONG = int("7" * 200)
ALL = (rows_of, table_weights, table_mixture, ways_of)
AND = [F, F, F, T]
OR = [F, T, T, T]
XOR = [F, T, T, F]


def digits(place, many):
    return tuple(int(sign) for sign in reversed(format(place, "0" + str(many) + "b")))


def inputs_of(truths):
    return {2: 1, 4: 2, 8: 3, 16: 4}[len(truths)]


def told_truths(weights, many):
    return [
        sum(one * other for one, other in zip(weights, digits(place, many) + (1,))) > 0 for place in range(2 ** many)
    ]


def ways_by_pairs(truths):
    """The ways of point 26, by all pairs of places that differ in one input."""
    many = inputs_of(truths)
    table = {digits(place, many): truth for place, truth in enumerate(truths)}
    ways = []
    for number in range(many):
        turns = set()
        for inputs in table:
            if inputs[number] == 0:
                pair = (table[inputs], table[inputs[:number] + (1,) + inputs[number + 1:]])
                turns.add(pair)
        ways.append({(F, F): 0, (T, F): 1, (F, T): -1, (T, T): None}[(F, T) in turns, (T, F) in turns])
    return ways


class TableCase(unittest.TestCase):
    def is_told(self, truths, weights):
        many = inputs_of(truths)
        self.assertIs(type(weights), tuple)
        self.assertEqual([type(number) for number in weights], [int] * (many + 1))
        self.assertEqual(gcd(*weights), 1)
        for place, truth in enumerate(truths):
            number = sum(one * other for one, other in zip(weights, digits(place, many) + (1,)))
            self.assertTrue(number > 0 if truth else number < 0)

    def is_mixture(self, truths, shares):
        many = inputs_of(truths)
        self.assertIs(type(shares), list)
        self.assertEqual(len(shares), len(truths))
        for share in shares:
            self.assertIs(type(share), tuple)
            self.assertEqual([type(number) for number in share], [int, int])
            self.assertGreaterEqual(share[0], 0)
            self.assertGreater(share[1], 0)
            self.assertEqual(gcd(*share), 1)
        spots = []
        for wanted in (T, F):
            some = [(digits(place, many), Fraction(*shares[place])) for place in range(2 ** many)
                    if truths[place] is wanted]
            self.assertEqual(sum(share for inputs, share in some), 1)
            spots.append([sum(inputs[number] * share for inputs, share in some) for number in range(many)])
        self.assertEqual(spots[0], spots[1])

    def holds(self, truths):
        """All that points 24 to 26 tell of a table; told is whether weights tell it."""
        kept = list(truths)
        many = inputs_of(truths)
        rows = rows_of(truths)
        self.assertEqual(rows, [(digits(place, many), int(truth)) for place, truth in enumerate(truths)])
        weights, shares, ways = table_weights(truths), table_mixture(truths), ways_of(truths)
        self.assertEqual((weights is None) + (shares is None), 1)
        self.assertEqual(weights, parting(rows))
        if weights is None:
            self.is_mixture(truths, shares)
            self.assertEqual(shares, sides_mixture(rows))
        else:
            self.is_told(truths, weights)
            self.assertEqual(table_of(weights), truths)
            self.assertNotIn(None, ways)
            for way, number in zip(ways, weights):
                self.assertGreaterEqual(way * number, abs(way))
        self.assertEqual(ways, ways_by_pairs(truths))
        self.assertEqual(truths, kept)
        return weights is not None


class Rows(unittest.TestCase):
    def is_so(self, truths, wanted):
        answer = rows_of(truths)
        self.assertIs(type(answer), list)
        self.assertEqual(answer, wanted)
        for row in answer:
            self.assertEqual([type(value) for value in row], [tuple, int])
            self.assertEqual({type(number) for number in row[0]}, {int})

    def test_one_input(self):
        self.is_so([F, T], [((0,), 0), ((1,), 1)])
        self.is_so([T, F], [((0,), 1), ((1,), 0)])
        self.is_so([T, T], [((0,), 1), ((1,), 1)])

    def test_two_inputs_the_lowest_first(self):
        self.is_so([F, T, F, F], [((0, 0), 0), ((1, 0), 1), ((0, 1), 0), ((1, 1), 0)])
        self.is_so([T, F, T, T], [((0, 0), 1), ((1, 0), 0), ((0, 1), 1), ((1, 1), 1)])

    def test_three_inputs(self):
        self.is_so(
            [F, F, F, F, T, F, T, F],
            [
                ((0, 0, 0), 0), ((1, 0, 0), 0), ((0, 1, 0), 0), ((1, 1, 0), 0),
                ((0, 0, 1), 1), ((1, 0, 1), 0), ((0, 1, 1), 1), ((1, 1, 1), 0),
            ],
        )

    def test_four_inputs(self):
        rows = rows_of([place in (1, 2, 4, 8, 13) for place in range(16)])
        self.assertEqual([number for number, row in enumerate(rows) if row[1] == 1], [1, 2, 4, 8, 13])
        self.assertEqual([rows[place][0] for place in (0, 1, 2, 4, 8)], [
            (0, 0, 0, 0), (1, 0, 0, 0), (0, 1, 0, 0), (0, 0, 1, 0), (0, 0, 0, 1),
        ])
        self.assertEqual([rows[place][0] for place in (13, 14, 15)], [(1, 0, 1, 1), (0, 1, 1, 1), (1, 1, 1, 1)])
        self.is_so([F] * 16, [(digits(place, 4), 0) for place in range(16)])


class Weights(TableCase):
    def test_of_tables_that_weights_tell(self):
        self.assertEqual(table_weights([F, T]), (2, -1))
        self.assertEqual(table_weights([T, F]), (-2, 1))
        self.assertEqual(table_weights(AND), (2, 2, -3))
        self.assertEqual(table_weights(OR), (2, 2, -1))
        self.assertEqual(table_weights([F, T, F, T]), (2, 0, -1))
        self.assertEqual(table_weights([F, F, T, T]), (0, 2, -1))
        self.assertEqual(table_weights([F] * 15 + [T]), (2, 2, 2, 2, -7))
        self.assertEqual(table_weights([F, F, F, T, F, T, T, T]), (2, 2, 2, -3))

    def test_of_truths_all_alike(self):
        for many in range(1, 5):
            self.assertEqual(table_weights([T] * 2 ** many), (0,) * many + (1,))
            self.assertEqual(table_weights([F] * 2 ** many), (0,) * many + (-1,))
            for truth in (T, F):
                self.assertIsNone(table_mixture([truth] * 2 ** many))

    def test_of_tables_that_none_tell(self):
        for truths in (XOR, [T, F, F, T], XOR * 2, XOR * 4, [F] * 6 + [T] + [F] * 2 + [T] + [F] * 6):
            with self.subTest(truths=truths):
                self.assertIsNone(table_weights(truths))
                self.is_mixture(truths, table_mixture(truths))

    def test_the_mixture_is_told_just_where_there_are_no_weights(self):
        self.assertEqual(table_mixture(XOR), [(1, 2)] * 4)
        for truths in (AND, OR, [F, T], [T, F, F, F], [F] * 15 + [T]):
            self.assertIsNone(table_mixture(truths))


class TablesOfWeights(unittest.TestCase):
    def is_so(self, weights, wanted):
        answer = table_of(weights)
        self.assertIs(type(answer), list)
        self.assertEqual(answer, wanted)
        self.assertEqual({type(truth) for truth in answer}, {bool})

    def test_above_below_and_nought(self):
        self.is_so((1, 0), [F, T])
        self.is_so((-1, 1), [T, F])
        self.is_so((0, 0), [F, F])
        self.is_so((0, 1), [T, T])
        self.is_so((1, -1), [F, F])
        self.is_so((1, 2, -2), [F, F, F, T])
        self.is_so((3, 2, -2), [F, T, F, T])
        self.is_so((1, -1, 0), [F, T, F, F])
        self.is_so((1, 1, 1, -1), [F, F, F, T, F, T, T, T])
        self.is_so((0, 0, 1, 0), [F, F, F, F, T, T, T, T])

    def test_four_inputs(self):
        self.is_so((1, 2, 4, 8, -9), [place > 9 for place in range(16)])
        self.is_so((-1, -2, -4, -8, 9), [place < 9 for place in range(16)])
        self.is_so((0, 0, 0, 0, 0), [F] * 16)

    def test_many_figures(self):
        self.is_so((LONG, -LONG, 1), [T, T, F, T])

    def test_all_small_weights(self):
        for many in range(1, 4):
            for weights in every((-2, -1, 0, 1, 3), repeat=many + 1):
                self.is_so(weights, told_truths(weights, many))
        source = random.Random(61)
        for turn in range(200):
            weights = tuple(source.randint(-9, 9) for place in range(5))
            self.is_so(weights, told_truths(weights, 4))

    def test_somewhat_beyond(self):
        self.is_so((5,), [T])
        self.is_so((1, 2, 4, 8, 16, -19), [place > 19 for place in range(32)])


class Ways(unittest.TestCase):
    def is_so(self, truths, wanted):
        answer = ways_of(truths)
        self.assertIs(type(answer), list)
        self.assertEqual(answer, wanted)
        self.assertTrue({type(way) for way in answer} <= {int, type(None)})

    def test_one_input(self):
        self.is_so([F, F], [0])
        self.is_so([T, T], [0])
        self.is_so([F, T], [1])
        self.is_so([T, F], [-1])

    def test_two_inputs(self):
        self.is_so(AND, [1, 1])
        self.is_so(XOR, [None, None])
        self.is_so([F, T, F, F], [1, -1])
        self.is_so([F, F, T, F], [-1, 1])
        self.is_so([F, T, F, T], [1, 0])
        self.is_so([F, F, T, T], [0, 1])
        self.is_so([T, F, T, F], [-1, 0])

    def test_each_kind_in_one_table(self):
        # Input 0 turns both, input 1 nothing, input 2 some to True alone, input 3 some to False alone.
        self.is_so([F, T, F, T, T, T, T, T, F, F, F, F, T, F, T, F], [None, 0, 1, -1])

    def test_by_all_pairs(self):
        for many in (1, 2, 3):
            for truths in every((F, T), repeat=2 ** many):
                self.is_so(list(truths), ways_by_pairs(truths))
        source = random.Random(62)
        for turn in range(300):
            truths = [source.random() < source.choice((0.1, 0.5, 0.9)) for place in range(16)]
            self.is_so(truths, ways_by_pairs(truths))


class AllTogether(TableCase):
    def test_all_tables_of_up_to_three_inputs(self):
        for many, wanted in ((1, 4), (2, 14), (3, 104)):
            told = sum(self.holds(list(truths)) for truths in every((F, T), repeat=2 ** many))
            self.assertEqual(told, wanted)

    def test_tables_of_four_inputs(self):
        source = random.Random(63)
        seen = {True: 0, False: 0}
        for turn in range(60):
            truths = [source.random() < source.choice((0.1, 0.5, 0.9)) for place in range(16)]
            seen[self.holds(truths)] += 1
        for turn in range(60):
            weights = [source.randint(-9, 9) for place in range(5)]
            seen[self.holds(told_truths(weights, 4))] += 1
        self.assertGreater(min(seen.values()), 20)


class Refused(unittest.TestCase):
    def test_a_list_that_is_not_so_long(self):
        for long in [0, 1, 3, 5, 6, 7, 9, 12, 15, 17, 24, 31, 32, 33, 64, 256, 1000]:
            for truths in ([T] * long, [F] * long, [place % 3 == 0 for place in range(long)]):
                for asking in ALL:
                    with self.subTest(asking=asking.__name__, long=long):
                        kept = list(truths)
                        with self.assertRaises(NoTable) as caught:
                            asking(truths)
                        self.assertIs(type(caught.exception), NoTable)
                        self.assertIsInstance(caught.exception, MendError)
                        self.assertIsInstance(caught.exception, ValueError)
                        self.assertEqual(truths, kept)

    def test_those_that_are(self):
        for long in (2, 4, 8, 16):
            for asking in ALL:
                asking([place % 3 == 0 for place in range(long)])


class HandedIn(unittest.TestCase):
    def test_a_list_told_may_be_changed(self):
        for asking, asked in (
            (rows_of, AND), (table_mixture, XOR), (ways_of, XOR), (ways_of, AND), (table_of, (1, 2, -2)),
        ):
            first = asking(asked)
            kept = copy.deepcopy(first)
            first[0] = None
            first.clear()
            self.assertEqual(asking(asked), kept)

    def test_truths_may_be_changed_afterwards(self):
        for asking in ALL:
            truths = list(XOR)
            first = asking(truths)
            kept = copy.deepcopy(first)
            truths.clear()
            self.assertEqual(first, kept)
            self.assertEqual(asking(XOR), kept)


if __name__ == "__main__":
    unittest.main()
