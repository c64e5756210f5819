"""What the document promises over the whole program (point 4), and points 1 to 3 wherever a list comes or goes."""

import copy
import random
import unittest
from fractions import Fraction
from itertools import product as every
from math import gcd

from mendweights import desk, hands, nearest, parts, points, runs, several, tables, texts, widths
from mendweights.errors import (
    MendError, NoPoint, NoRow, NoSide, NoTable, NoText, NotParted, OneSide, TooMany, WrongBook,
)

T, F = True, False
PARTED = [((2, 1), 1), ((3, -1), 1), ((-1, 0), 0), ((-2, 4), 0)]
CROSSED = [((0, 0), 0), ((1, 1), 0), ((0, 1), 1), ((1, 0), 1)]
CORNERS = [((0, 0), 0), ((9, 0), 1), ((0, 9), 2)]
TWICE = CORNERS + [((9, 0), 2)]


def some_rows(source, sides, many, how_many, reach):
    return [
        (tuple(source.randint(-reach, reach) for place in range(many)), source.randrange(sides))
        for one in range(how_many)
    ]


def mixed(rows, shares, side):
    return [
        sum(Fraction(*share) * row[0][place] for row, share in zip(rows, shares) if row[1] == side)
        for place in range(len(rows[0][0]))
    ]


class MistakesAreBounded(unittest.TestCase):
    def ends_within(self, made, rows, bound):
        """A new hand makes no more mistakes, its book replays, and in the end it tells each row's side."""
        hand = made()
        book = runs.run(hand, rows)
        self.assertLessEqual(len(book), bound)
        self.assertEqual(hand.mistakes(), len(book))
        for point, side in rows:
            self.assertEqual(hand.tells(point), side)
        other = made()
        for number in book:
            self.assertIs(other.put(*rows[number]), True)
        self.assertEqual(other.weights(), hand.weights())
        other = made()
        self.assertEqual(runs.replay(other, rows, book), len(book))
        self.assertEqual(other.weights(), hand.weights())

    def test_by_the_weights_that_show_the_width(self):
        source = random.Random(91)
        seen = 0
        for turn in range(150):
            many = source.randint(1, 4)
            rows = some_rows(source, 2, many, source.randint(1, 8), 5)
            weights = widths.parting(rows)
            if weights is not None:
                seen += 1
                self.ends_within(lambda: hands.PlainHand(many), rows, runs.bound_of(rows, weights))
                for margin in (0, 1, 20):
                    bound = runs.bound_of(rows, weights, margin)
                    if bound <= 5000:
                        self.ends_within(lambda: hands.MarginHand(many, margin), rows, bound)
        self.assertGreater(seen, 50)

    def test_by_the_weights_for_several_sides(self):
        source = random.Random(92)
        seen = 0
        for turn in range(150):
            many, sides = source.randint(1, 4), source.randint(2, 5)
            rows = some_rows(source, sides, many, source.randint(1, 7), 5)
            weights = several.several_parting(rows, sides)
            if weights is not None:
                seen += 1
                bound = runs.sides_bound(rows, weights)
                self.ends_within(lambda: hands.SidesHand(many, sides), rows, bound)
        self.assertGreater(seen, 50)

    def test_by_the_weights_of_a_table(self):
        for truths in every((F, T), repeat=8):
            weights = tables.table_weights(list(truths))
            if weights is not None:
                rows = tables.rows_of(list(truths))
                self.ends_within(lambda: hands.PlainHand(3), rows, runs.bound_of(rows, weights))

    def test_by_halves(self):
        for many in range(1, 5):
            for telling in every((0, 1), repeat=many):
                truths = [
                    any(place // 2 ** number % 2 and telling[number] for number in range(many))
                    for place in range(2 ** many)
                ]
                bound = runs.halving_bound(many, sum(telling))
                for rows in (tables.rows_of(truths), tables.rows_of(truths)[::-1]):
                    self.ends_within(lambda: hands.HalvingHand(many), rows, bound)

    def test_at_a_desk(self):
        for text in ("1 2 1\n0 -1 0\n1 3 -1\n0 -2 4", "1 1/2\n0 1/3", "1 7\n0 6\n1 8"):
            rows = texts.read_rows(text)[1]
            one = desk.Desk(text)
            book = one.say("run 5000").split(" ")[1:]
            weights = tuple(int(word) for word in one.say("part").split(" "))
            self.assertLessEqual(len(book), runs.bound_of(rows, weights))
            told = tuple(int(word) for word in one.say("weights").split(" "))
            self.assertTrue(points.are_parted(rows, told))


class OneOrTheOther(unittest.TestCase):
    def test_two_sides(self):
        source = random.Random(93)
        seen = {True: 0, False: 0}
        for turn in range(200):
            rows = some_rows(source, 2, source.randint(1, 4), source.randint(2, 10), source.choice((1, 4, 1000)))
            if {side for point, side in rows} == {0, 1}:
                weights, shares = widths.parting(rows), widths.sides_mixture(rows)
                meet = mixed(rows, shares, 0) == mixed(rows, shares, 1)
                self.assertEqual(weights is None, meet)
                self.assertEqual(widths.width_square(rows) == (0, 1), meet)
                if weights is not None:
                    self.assertTrue(points.are_parted(rows, weights))
                seen[meet] += 1
        self.assertGreater(min(seen.values()), 30)

    def test_two_sides_as_two_and_as_several(self):
        source = random.Random(94)
        seen = {True: 0, False: 0}
        for turn in range(150):
            rows = some_rows(source, 2, source.randint(1, 4), source.randint(1, 9), source.choice((1, 4, 1000)))
            weights = several.several_parting(rows, 2)
            self.assertEqual(weights is None, widths.parting(rows) is None)
            self.assertEqual(several.several_mixture(rows, 2) is None, weights is not None)
            if weights is not None:
                less = tuple(one - other for one, other in zip(weights[1], weights[0]))
                self.assertTrue(points.are_parted(rows, less))
            seen[weights is None] += 1
        self.assertGreater(min(seen.values()), 30)

    def test_tables(self):
        for truths in every((F, T), repeat=8):
            truths = list(truths)
            weights, shares = tables.table_weights(truths), tables.table_mixture(truths)
            if weights is None:
                rows = tables.rows_of(truths)
                self.assertEqual(mixed(rows, shares, 0), mixed(rows, shares, 1))
            else:
                self.assertIsNone(shares)
                self.assertEqual(tables.table_of(weights), truths)
                self.assertEqual(gcd(*weights), 1)


class TheWidth(unittest.TestCase):
    def test_it_is_shown_by_the_weights_the_mixtures_and_the_holders(self):
        source = random.Random(95)
        for turn in range(60):
            rows = some_rows(source, 2, source.randint(1, 4), source.randint(2, 9), source.choice((2, 9, 1000)))
            if {side for point, side in rows} != {0, 1}:
                continue
            width = Fraction(*widths.width_square(rows))
            shares = widths.sides_mixture(rows)
            way = [one - other for one, other in zip(mixed(rows, shares, 1), mixed(rows, shares, 0))]
            self.assertEqual(sum(number * number for number in way), width)
            weights = widths.parting(rows)
            if weights is not None:
                part = weights[:-1]
                products = [(points.product(part, point), side) for point, side in rows]
                shown = min(n for n, side in products if side == 1) - max(n for n, side in products if side == 0)
                self.assertEqual(shown * shown, width * points.square(part))
            held = [rows[number] for number in widths.holders(rows)]
            self.assertEqual(Fraction(*widths.width_square(held)), width)
            for number in range(len(held)):
                others = held[:number] + held[number + 1:]
                if {side for point, side in others} == {0, 1}:
                    self.assertGreater(Fraction(*widths.width_square(others)), width)


def all_askings():
    """Each function that takes or tells lists, with what it is asked."""
    wide = ((0, 0, 0), (1, -1, 0), (-1, 1, 0))
    return [
        (points.are_parted, (PARTED, (1, 0, 0))), (points.gap_on, (PARTED, (1, 0, 0))), (points.farthest, (PARTED,)),
        (runs.bound_of, (PARTED, (3, -1, 0), 4)), (runs.bound_of, (CROSSED, (3, -1, 0))),
        (runs.sides_gap, (CORNERS, wide)), (runs.sides_bound, (CORNERS, ((-1, -1, 5), (2, -1, 0), (-1, 2, 0)))),
        (runs.sides_bound, (CORNERS, wide)), (runs.sides_bound, (CORNERS, wide[:2])),
        (runs.halving_bound, (12, 5)),
        (nearest.mixture, ([(1, 0), (0, 1)], [(1, 3), (2, 3)])), (nearest.nearest_shares, ([(1, 0), (0, 1), (3, 3)],)),
        (widths.parting, (PARTED,)), (widths.parting, (CROSSED,)), (widths.parting, ([((1,), 3)],)),
        (widths.sides_mixture, (PARTED,)), (widths.sides_mixture, (CROSSED,)), (widths.width_square, (PARTED,)),
        (widths.holders, (PARTED,)), (widths.holders, (CROSSED,)), (widths.holders, ([((1,), 0)],)),
        (several.vectors_of, (CORNERS, 3)), (several.several_parting, (CORNERS, 4)),
        (several.several_mixture, (TWICE, 3)), (several.several_parting, (TWICE, 3)),
        (several.several_mixture, (CORNERS, 3)), (several.vectors_of, (CORNERS, 2)),
        (tables.rows_of, ([F, T, T, F],)), (tables.table_weights, ([F, T, T, T],)),
        (tables.table_mixture, ([F, T, T, F],)), (tables.table_of, ((1, 2, -2),)), (tables.ways_of, ([F, T, T, F],)),
        (tables.ways_of, ([F, T, T],)), (texts.read_rows, ("0 1/2\n1 3",)), (texts.read_rows, ("0 1/2\n1 3/3",)),
        (points.made_whole, (((1, 2), (2, 3)),)), (parts.part, (4, -6)),
    ]


def answer_of(asking, asked):
    try:
        return asking(*asked)
    except MendError as refusal:
        return (refusal.__class__.__name__, getattr(refusal, "line", None))


class HandedInAndTold(unittest.TestCase):
    def test_whatever_is_handed_in_stays_as_it_was(self):
        for asking, asked in all_askings():
            with self.subTest(asking=asking.__name__):
                kept = copy.deepcopy(asked)
                answer_of(asking, asked)
                self.assertEqual(asked, kept)

    def test_like_askings_have_like_answers_whatever_becomes_of_the_first(self):
        kept = [copy.deepcopy(answer_of(asking, asked)) for asking, asked in all_askings()]
        for (asking, asked), wanted in zip(reversed(all_askings()), reversed(kept)):
            with self.subTest(asking=asking.__name__):
                handed = copy.deepcopy(asked)
                answer = answer_of(asking, handed)
                self.assertEqual(answer, wanted)
                for some in handed:
                    if isinstance(some, list):
                        some.clear()
                self.assertEqual(answer, wanted)
                told = answer[1] if isinstance(answer, tuple) and asking is texts.read_rows else answer
                if isinstance(told, list):
                    told.clear()
                    told.append("changed")
                self.assertEqual(answer_of(asking, asked), wanted)


class OfSeveralRefusals(unittest.TestCase):
    """Point 3: the one that the document tells first."""

    def is_refused(self, refusal, asking, *asked):
        with self.assertRaises(MendError) as caught:
            asking(*asked)
        self.assertIs(type(caught.exception), refusal)
        self.assertIsInstance(caught.exception, ValueError)
        return caught.exception

    def test_the_point_ahead_of_the_side(self):
        for hand in (hands.Hand(2), hands.PlainHand(2), hands.MarginHand(2, 1), hands.SidesHand(2, 3)):
            self.is_refused(NoPoint, hand.put, (1,), 9)
            self.is_refused(NoSide, hand.put, (1, 1), 9)

    def test_the_hands_refusal_ahead_of_the_runs(self):
        self.is_refused(NoPoint, runs.run, hands.PlainHand(2), [((1,), 0)], 0)
        self.is_refused(NoSide, runs.run, hands.PlainHand(1), [((1,), 7)], 0)
        self.is_refused(TooMany, runs.run, hands.PlainHand(1), [((1,), 0), ((1,), 7)], 0)

    def test_a_row_that_there_is_not(self):
        self.assertEqual(self.is_refused(WrongBook, runs.replay, hands.PlainHand(2), [((1,), 7)], [1]).place, 0)
        self.is_refused(NoPoint, runs.replay, hands.PlainHand(2), [((1,), 7)], [0])

    def test_the_side_ahead_of_all_else(self):
        self.is_refused(NoSide, runs.sides_bound, [((1,), 0), ((1,), 3)], ((0, 0), (0, 0)))
        self.is_refused(NotParted, runs.sides_bound, [((1,), 0), ((1,), 1)], ((0, 0), (0, 0)))
        for asking in (widths.sides_mixture, widths.width_square, widths.holders):
            self.is_refused(NoSide, asking, [((1,), 0), ((1,), 2)])
            self.is_refused(OneSide, asking, [((1,), 0), ((1,), 0)])
        self.is_refused(NoSide, several.several_parting, [((1,), 0), ((1,), 1), ((1,), 2)], 2)

    def test_texts_tables_and_desks(self):
        self.is_refused(NoTable, tables.table_mixture, [T, T, T])
        self.assertEqual(self.is_refused(NoText, texts.read_rows, "0 9999\n0 1\n0 x").line, 2)
        self.assertEqual(self.is_refused(NoText, desk.Desk, "0 9999\n0 1\n0 1").line, 0)
        self.is_refused(NoRow, desk.Desk("0 1").say, "put 1")


if __name__ == "__main__":
    unittest.main()
