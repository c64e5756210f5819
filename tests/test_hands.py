import random
import unittest
from fractions import Fraction
from itertools import product as every

from mendweights import hands
from mendweights.errors import NoPoint, NoSide
from mendweights.hands import HalvingHand, Hand, MarginHand, PlainHand, SidesHand

LONG = int("7" * 200)


def told(fraction):
    return (fraction.numerator, fraction.denominator)


def product_with(weights, point):
    return sum(weight * number for weight, number in zip(weights, list(point) + [1], strict=True))


class PlainModel:
    """What points 9 and 10 tell of Hand, PlainHand and MarginHand, written once more and otherwise."""

    def __init__(self, many, mends=True, margin=None):
        self.numbers = [0] * (many + 1)
        self.mends = mends
        self.margin = margin
        self.count = 0

    def weights(self):
        return tuple(self.numbers)

    def tells(self, point):
        number = product_with(self.numbers, point)
        return {True: 1, False: 0}[number > 0] if number else None

    def put(self, point, side):
        number = product_with(self.numbers, point)
        sign = {1: 1, 0: -1}[side]
        wrong = number * sign <= (self.margin or 0)
        if wrong:
            self.count += 1
            if self.mends:
                for place, coordinate in enumerate(list(point) + [1]):
                    self.numbers[place] += sign * coordinate
        return wrong


class HalvingModel:
    def __init__(self, many):
        self.numbers = [Fraction(1)] * many
        self.count = 0

    def weights(self):
        return tuple(told(number) for number in self.numbers)

    def tells(self, point):
        return int(sum(n for n, c in zip(self.numbers, point) if c) >= len(self.numbers))

    def put(self, point, side):
        wrong = self.tells(point) != side
        if wrong:
            self.count += 1
            for place, coordinate in enumerate(point):
                if coordinate:
                    self.numbers[place] *= Fraction(2) if side else Fraction(1, 2)
        return wrong


class SidesModel:
    def __init__(self, many, sides):
        self.numbers = [[0] * (many + 1) for side in range(sides)]
        self.count = 0

    def weights(self):
        return tuple(tuple(numbers) for numbers in self.numbers)

    def tells(self, point):
        products = [product_with(numbers, point) for numbers in self.numbers]
        best = [side for side, number in enumerate(products) if number == max(products)]
        return best[0] if len(best) == 1 else None

    def put(self, point, side):
        wrong = self.tells(point) != side
        if wrong:
            self.count += 1
            products = [product_with(numbers, point) for numbers in self.numbers]
            rival = sorted((-number, other) for other, number in enumerate(products) if other != side)[0][1]
            for place, coordinate in enumerate(list(point) + [1]):
                self.numbers[side][place] += coordinate
                self.numbers[rival][place] -= coordinate
        return wrong


class HandCase(unittest.TestCase):
    def puts(self, hand, point, side, wrong, weights, mistakes):
        self.assertIs(hand.put(point, side), wrong)
        self.assertEqual(hand.weights(), weights)
        self.assertIs(type(hand.weights()), tuple)
        self.assertEqual(hand.mistakes(), mistakes)
        self.assertIs(type(hand.mistakes()), int)

    def goes_like(self, hand, model, rows, points):
        self.assertEqual(hand.weights(), model.weights())
        self.assertEqual(hand.mistakes(), 0)
        for point, side in rows:
            for seen in points:
                self.assertEqual(hand.tells(seen), model.tells(seen))
            self.assertIs(hand.put(point, side), model.put(point, side))
            self.assertEqual(hand.weights(), model.weights())
            self.assertEqual(hand.mistakes(), model.count)


def some_rows(source, many, sides, how_many, low=-3, high=3):
    return [
        (tuple(source.randint(low, high) for place in range(many)), source.randrange(sides))
        for turn in range(how_many)
    ]


class Classes(unittest.TestCase):
    def test_four_stand_under_hand(self):
        for name in ("PlainHand", "MarginHand", "HalvingHand", "SidesHand"):
            with self.subTest(name=name):
                self.assertTrue(issubclass(getattr(hands, name), Hand))
                self.assertIsNot(getattr(hands, name), Hand)

    def test_as_they_are_made(self):
        for many in range(1, 5):
            noughts = (0,) * (many + 1)
            self.assertEqual(Hand(many).weights(), noughts)
            self.assertEqual(PlainHand(many).weights(), noughts)
            self.assertEqual(MarginHand(many, 7).weights(), noughts)
            for sides in range(2, 6):
                self.assertEqual(SidesHand(many, sides).weights(), (noughts,) * sides)
        for many in range(1, 13):
            self.assertEqual(HalvingHand(many).weights(), ((1, 1),) * many)
        for hand in (Hand(1), PlainHand(2), MarginHand(3, 4), HalvingHand(12), SidesHand(4, 5)):
            self.assertEqual(hand.mistakes(), 0)


class TheHandThatMendsNothing(HandCase):
    def test_it_counts_and_stays(self):
        hand = Hand(2)
        self.assertIsNone(hand.tells((3, 4)))
        self.puts(hand, (3, 4), 1, True, (0, 0, 0), 1)
        self.puts(hand, (3, 4), 0, True, (0, 0, 0), 2)
        self.puts(hand, (0, 0), 1, True, (0, 0, 0), 3)
        self.assertIsNone(hand.tells((3, 4)))

    def test_like_the_model(self):
        source = random.Random(1)
        for many in range(1, 5):
            rows = some_rows(source, many, 2, 12)
            self.goes_like(Hand(many), PlainModel(many, mends=False), rows, [row[0] for row in rows])


class Plain(HandCase):
    def test_one_coordinate(self):
        hand = PlainHand(1)
        self.assertIsNone(hand.tells((5,)))
        self.puts(hand, (2,), 1, True, (2, 1), 1)
        self.assertEqual(hand.tells((2,)), 1)
        self.assertEqual(hand.tells((-1,)), 0)
        self.puts(hand, (2,), 1, False, (2, 1), 1)
        self.puts(hand, (-1,), 0, False, (2, 1), 1)
        self.puts(hand, (1,), 0, True, (1, 0), 2)
        self.assertIsNone(hand.tells((0,)))
        self.puts(hand, (0,), 0, True, (1, -1), 3)
        self.assertIsNone(hand.tells((1,)))
        self.puts(hand, (1,), 1, True, (2, 0), 4)
        self.puts(hand, (-5,), 1, True, (-3, 1), 5)

    def test_a_product_of_0_is_a_mistake_for_either_side(self):
        self.puts(PlainHand(3), (1, -2, 3), 1, True, (1, -2, 3, 1), 1)
        self.puts(PlainHand(3), (1, -2, 3), 0, True, (-1, 2, -3, -1), 1)

    def test_four_coordinates(self):
        hand = PlainHand(4)
        self.puts(hand, (1, 2, 3, 4), 0, True, (-1, -2, -3, -4, -1), 1)
        self.puts(hand, (1, 0, 0, 0), 0, False, (-1, -2, -3, -4, -1), 1)
        self.puts(hand, (1, 0, 0, 0), 1, True, (0, -2, -3, -4, 0), 2)
        self.assertIsNone(hand.tells((1000, 0, 0, 0)))
        self.assertEqual(hand.tells((0, 0, -1, 0)), 1)
        self.assertEqual(hand.tells((0, 0, 1, 0)), 0)

    def test_many_figures(self):
        hand = PlainHand(2)
        self.puts(hand, (LONG, -LONG), 1, True, (LONG, -LONG, 1), 1)
        self.assertEqual(hand.tells((1, 1)), 1)
        self.assertEqual(hand.tells((1, 2)), 0)
        self.puts(hand, (LONG, LONG - 1), 0, True, (0, -2 * LONG + 1, 0), 2)

    def test_like_the_model(self):
        source = random.Random(2)
        for many in range(1, 5):
            for turn in range(10):
                rows = some_rows(source, many, 2, 25)
                self.goes_like(PlainHand(many), PlainModel(many), rows, [row[0] for row in rows])


class Margin(HandCase):
    def test_the_margin_itself_is_a_mistake(self):
        hand = MarginHand(1, 5)
        self.puts(hand, (2,), 1, True, (2, 1), 1)
        # The product is 5 now, just the margin.
        self.assertEqual(hand.tells((2,)), 1)
        self.puts(hand, (2,), 1, True, (4, 2), 2)
        self.puts(hand, (2,), 1, False, (4, 2), 2)
        self.puts(hand, (-2,), 0, False, (4, 2), 2)
        hand = MarginHand(1, 4)
        self.puts(hand, (2,), 1, True, (2, 1), 1)
        self.puts(hand, (2,), 1, False, (2, 1), 1)

    def test_just_the_margin_on_side_0(self):
        hand = MarginHand(1, 5)
        self.puts(hand, (2,), 0, True, (-2, -1), 1)
        self.assertEqual(hand.tells((2,)), 0)
        self.puts(hand, (2,), 0, True, (-4, -2), 2)
        self.puts(hand, (2,), 0, False, (-4, -2), 2)
        hand = MarginHand(1, 4)
        self.puts(hand, (2,), 0, True, (-2, -1), 1)
        self.puts(hand, (2,), 0, False, (-2, -1), 1)

    def test_it_tells_without_the_margin(self):
        hand = MarginHand(2, 1000)
        self.assertIsNone(hand.tells((1, 1)))
        hand.put((1, 0), 1)
        self.assertEqual(hand.weights(), (1, 0, 1))
        self.assertEqual(hand.tells((0, 0)), 1)
        self.assertIsNone(hand.tells((-1, 7)))
        self.assertEqual(hand.tells((-2, 7)), 0)

    def test_a_margin_of_0_is_like_the_plain_hand(self):
        source = random.Random(3)
        rows = some_rows(source, 3, 2, 60)
        margin, plain = MarginHand(3, 0), PlainHand(3)
        for point, side in rows:
            self.assertIs(margin.put(point, side), plain.put(point, side))
            self.assertEqual(margin.weights(), plain.weights())
            self.assertEqual(margin.mistakes(), plain.mistakes())

    def test_like_the_model(self):
        source = random.Random(4)
        for many in range(1, 5):
            for margin in (0, 1, 2, 5, 17, 1000):
                rows = some_rows(source, many, 2, 25)
                model = PlainModel(many, margin=margin)
                self.goes_like(MarginHand(many, margin), model, rows, [row[0] for row in rows])


class Halving(HandCase):
    def test_three_coordinates(self):
        hand = HalvingHand(3)
        self.assertEqual(hand.tells((1, 1, 1)), 1)
        self.assertEqual(hand.tells((1, 1, 0)), 0)
        self.puts(hand, (1, 1, 1), 1, False, ((1, 1), (1, 1), (1, 1)), 0)
        self.puts(hand, (1, 1, 0), 1, True, ((2, 1), (2, 1), (1, 1)), 1)
        self.puts(hand, (1, 1, 0), 1, False, ((2, 1), (2, 1), (1, 1)), 1)
        self.assertEqual(hand.tells((0, 1, 1)), 1)
        self.puts(hand, (0, 1, 1), 0, True, ((2, 1), (1, 1), (1, 2)), 2)
        self.assertEqual(hand.tells((1, 0, 1)), 0)
        self.puts(hand, (1, 1, 1), 0, True, ((1, 1), (1, 2), (1, 4)), 3)
        self.puts(hand, (1, 1, 1), 0, False, ((1, 1), (1, 2), (1, 4)), 3)

    def test_just_as_many_as_coordinates_tell_1(self):
        hand = HalvingHand(2)
        self.assertEqual(hand.tells((1, 1)), 1)
        self.puts(hand, (1, 0), 1, True, ((2, 1), (1, 1)), 1)
        self.assertEqual(hand.tells((1, 0)), 1)
        self.assertEqual(hand.tells((0, 1)), 0)

    def test_a_point_without_a_1(self):
        hand = HalvingHand(2)
        self.assertEqual(hand.tells((0, 0)), 0)
        self.puts(hand, (0, 0), 0, False, ((1, 1), (1, 1)), 0)
        self.puts(hand, (0, 0), 1, True, ((1, 1), (1, 1)), 1)

    def test_one_coordinate(self):
        hand = HalvingHand(1)
        self.assertEqual(hand.tells((1,)), 1)
        self.puts(hand, (1,), 0, True, ((1, 2),), 1)
        self.assertEqual(hand.tells((1,)), 0)
        self.puts(hand, (1,), 1, True, ((1, 1),), 2)

    def test_a_weight_that_is_halved_very_often(self):
        hand, model = HalvingHand(2), HalvingModel(2)
        rows = [((1, 1), 0), ((1, 0), 1)] * 150
        self.goes_like(hand, model, rows, [(1, 1), (1, 0), (0, 1)])
        self.assertGreater(hand.weights()[1][1], 10 ** 30)

    def test_like_the_model(self):
        source = random.Random(5)
        for many in range(1, 13):
            rows = some_rows(source, many, 2, 60, 0, 1)
            self.goes_like(HalvingHand(many), HalvingModel(many), rows, [row[0] for row in rows])


class Sides(HandCase):
    def test_three_sides(self):
        hand = SidesHand(1, 3)
        self.assertIsNone(hand.tells((2,)))
        # All products are 0: the rival is the least numbered other side.
        self.puts(hand, (2,), 2, True, ((-2, -1), (0, 0), (2, 1)), 1)
        self.assertEqual(hand.tells((2,)), 2)
        self.puts(hand, (2,), 2, False, ((-2, -1), (0, 0), (2, 1)), 1)
        # Products 1, 0, -1 of (-1,).
        self.assertEqual(hand.tells((-1,)), 0)
        self.puts(hand, (-1,), 1, True, ((-1, -2), (-1, 1), (2, 1)), 2)
        # Products -2, 1, 1 of (0,): the greatest stands twice.
        self.assertIsNone(hand.tells((0,)))
        self.puts(hand, (0,), 0, True, ((-1, -1), (-1, 0), (2, 1)), 3)
        # Products -1, 0, 1 of (0,): the row's own side has the greatest but one.
        self.puts(hand, (0,), 1, True, ((-1, -1), (-1, 1), (2, 0)), 4)

    def test_like_products_among_which_is_the_rows_side(self):
        hand = SidesHand(2, 3)
        self.puts(hand, (1, 1), 0, True, ((1, 1, 1), (-1, -1, -1), (0, 0, 0)), 1)
        self.assertIsNone(SidesHand(2, 3).tells((1, 1)))
        hand = SidesHand(2, 2)
        self.puts(hand, (3, -4), 1, True, ((-3, 4, -1), (3, -4, 1)), 1)
        self.assertIsNone(hand.tells((1, 1)))
        self.puts(hand, (1, 1), 1, True, ((-4, 3, -2), (4, -3, 2)), 2)

    def test_the_least_numbered_of_several_rivals(self):
        hand = SidesHand(1, 5)
        self.puts(hand, (1,), 0, True, ((1, 1), (-1, -1), (0, 0), (0, 0), (0, 0)), 1)
        self.puts(hand, (0,), 0, False, ((1, 1), (-1, -1), (0, 0), (0, 0), (0, 0)), 1)
        # All products of (-1,) are 0.
        self.puts(hand, (-1,), 4, True, ((2, 0), (-1, -1), (0, 0), (0, 0), (-1, 1)), 2)
        self.puts(hand, (-3,), 4, False, ((2, 0), (-1, -1), (0, 0), (0, 0), (-1, 1)), 2)
        self.puts(hand, (0,), 0, True, ((2, 1), (-1, -1), (0, 0), (0, 0), (-1, 0)), 3)
        # Products 1, -1, 0, 0, 0 of (0,).
        self.puts(hand, (0,), 1, True, ((2, 0), (-1, 0), (0, 0), (0, 0), (-1, 0)), 4)
        # All products of (0,) are 0, and those of sides 0, 1, 2 and 4 are alike beside side 3.
        self.puts(hand, (0,), 3, True, ((2, -1), (-1, 0), (0, 0), (0, 1), (-1, 0)), 5)
        # Products 1, -1, 0, 1, -1 of (1,): sides 0 and 3 are alike beside side 2.
        self.puts(hand, (1,), 2, True, ((1, -2), (-1, 0), (1, 1), (0, 1), (-1, 0)), 6)

    def test_like_the_model(self):
        source = random.Random(6)
        for many in range(1, 5):
            for sides in range(2, 6):
                rows = some_rows(source, many, sides, 40, -2, 2)
                self.goes_like(SidesHand(many, sides), SidesModel(many, sides), rows, [row[0] for row in rows])

    def test_many_figures(self):
        hand, model = SidesHand(2, 3), SidesModel(2, 3)
        rows = [((LONG, 1), 0), ((LONG, 2), 1), ((-LONG, LONG), 2), ((LONG - 1, 0), 0)]
        self.goes_like(hand, model, rows, [row[0] for row in rows])


def each_hand(many):
    return [Hand(many), PlainHand(many), MarginHand(many, 3), HalvingHand(many), SidesHand(many, 3)]


def sides_without(hand):
    return (-2, -1, 3, 4, LONG) if isinstance(hand, SidesHand) else (-2, -1, 2, 3, LONG)


class Refused(unittest.TestCase):
    def is_refused(self, hand, refusal, asking, *handed):
        before = (hand.weights(), hand.mistakes())
        with self.assertRaises(refusal):
            asking(*handed)
        self.assertEqual((hand.weights(), hand.mistakes()), before)

    def test_another_number_of_coordinates(self):
        for many in range(1, 5):
            for hand in each_hand(many):
                for turn in range(2):
                    for other in range(0, 7):
                        if other != many:
                            self.is_refused(hand, NoPoint, hand.tells, (1,) * other)
                            self.is_refused(hand, NoPoint, hand.put, (1,) * other, 1)
                    hand.put((1,) * many, 0)

    def test_a_side_that_there_is_not(self):
        for hand in each_hand(2):
            for turn in range(2):
                for side in sides_without(hand):
                    self.is_refused(hand, NoSide, hand.put, (1, 0), side)
                hand.put((1, 1), 0)

    def test_the_point_ahead_of_the_side(self):
        for hand in each_hand(2):
            for side in sides_without(hand):
                self.is_refused(hand, NoPoint, hand.put, (1,), side)
                self.is_refused(hand, NoPoint, hand.put, (1, 0, 1), side)

    def test_the_sides_that_there_are(self):
        for sides in range(2, 6):
            for side in range(sides):
                self.assertIs(SidesHand(1, sides).put((1,), side), True)
            for side in (-1, sides, sides + 1):
                hand = SidesHand(1, sides)
                self.is_refused(hand, NoSide, hand.put, (1,), side)

    def test_by_halves_with_up_to_twelve_coordinates(self):
        for many in range(1, 13):
            hand = HalvingHand(many)
            for other in range(0, 15):
                if other != many:
                    self.is_refused(hand, NoPoint, hand.tells, (1,) * other)
                    self.is_refused(hand, NoPoint, hand.put, (0,) * other, 1)


class Apart(unittest.TestCase):
    def test_two_hands_do_not_change_one_another(self):
        for first, second in zip(each_hand(2), each_hand(2)):
            with self.subTest(kind=type(first).__name__):
                fresh = (second.weights(), second.mistakes())
                for point, side in every(((1, 1), (1, 0), (0, 1)), (1, 0, 1)):
                    first.put(point, side)
                self.assertGreater(first.mistakes(), 0)
                self.assertEqual((second.weights(), second.mistakes()), fresh)
                kept = (first.weights(), first.mistakes())
                second.put((1, 0), 1)
                second.put((0, 1), 0)
                self.assertEqual((first.weights(), first.mistakes()), kept)

    def test_telling_changes_nothing(self):
        for hand in each_hand(2):
            hand.put((1, 0), 1)
            kept = (hand.weights(), hand.mistakes())
            self.assertEqual(hand.tells((1, 1)), hand.tells((1, 1)))
            self.assertEqual((hand.weights(), hand.mistakes()), kept)

    def test_weights_that_were_told_stay_as_they_were(self):
        for hand in each_hand(2):
            told_first = hand.weights()
            as_it_was = repr(told_first)
            for point, side in every(((1, 1), (1, 0)), (1, 0)):
                hand.put(point, side)
            self.assertEqual(repr(told_first), as_it_was)


if __name__ == "__main__":
    unittest.main()
