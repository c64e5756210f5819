import unittest
from fractions import Fraction
from math import gcd

from mendweights.errors import MendError, NoFraction
from mendweights.parts import both, by, into, is_below, part, without

LONG = int("7" * 200)
LONG_TOO = 10 ** 199 + 9
SOME = [
    (0, 1), (1, 1), (-1, 1), (2, 1), (-3, 1), (1, 2), (-1, 2), (1, 3), (-2, 3), (5, 6), (-5, 6), (7, 4), (-9, 4),
    (3, 10), (10 ** 199, 7), (-(10 ** 199), 7), (1, LONG_TOO), (-1, LONG_TOO), (LONG, 10 ** 199),
]


def told(fraction):
    return (fraction.numerator, fraction.denominator)


class FractionCase(unittest.TestCase):
    def is_in_form(self, fraction):
        self.assertIs(type(fraction), tuple)
        self.assertEqual(len(fraction), 2)
        top, bottom = fraction
        self.assertIs(type(top), int)
        self.assertIs(type(bottom), int)
        self.assertGreater(bottom, 0)
        self.assertEqual(gcd(top, bottom), 1)


class Part(FractionCase):
    def test_signs(self):
        self.assertEqual(part(2, 3), (2, 3))
        self.assertEqual(part(-2, 3), (-2, 3))
        self.assertEqual(part(2, -3), (-2, 3))
        self.assertEqual(part(-2, -3), (2, 3))

    def test_a_common_factor(self):
        self.assertEqual(part(6, 4), (3, 2))
        self.assertEqual(part(-6, 4), (-3, 2))
        self.assertEqual(part(6, -4), (-3, 2))
        self.assertEqual(part(-6, -4), (3, 2))
        self.assertEqual(part(4, 12), (1, 3))

    def test_whole_numbers_have_the_bottom_1(self):
        self.assertEqual(part(5, 1), (5, 1))
        self.assertEqual(part(5, -1), (-5, 1))
        self.assertEqual(part(12, 4), (3, 1))
        self.assertEqual(part(-12, 4), (-3, 1))
        self.assertEqual(part(7, 7), (1, 1))

    def test_nought(self):
        for bottom in (1, -1, 2, -2, 12, LONG, -LONG):
            with self.subTest(bottom=bottom):
                self.assertEqual(part(0, bottom), (0, 1))
                self.is_in_form(part(0, bottom))

    def test_all_small_ones(self):
        for top in range(-30, 31):
            for bottom in range(-30, 31):
                if bottom != 0:
                    self.assertEqual(part(top, bottom), told(Fraction(top, bottom)))
                    self.is_in_form(part(top, bottom))

    def test_many_figures(self):
        for top in (LONG, -LONG, 10 ** 199, 6 ** 250, -(6 ** 250)):
            for bottom in (LONG_TOO, -LONG_TOO, LONG, 15 ** 168, -(10 ** 199)):
                with self.subTest(top=top, bottom=bottom):
                    self.assertEqual(part(top, bottom), told(Fraction(top, bottom)))
                    self.is_in_form(part(top, bottom))

    def test_neighbours_among_sums_of_many_figures(self):
        # Each number is the sum of the two before it: no pair of so many figures takes longer to reduce.
        before, last = 1, 1
        while last < 10 ** 198:
            before, last = last, before + last
        self.assertEqual(part(before, last), (before, last))
        self.assertEqual(part(-6 * last, 6 * before), (-last, before))

    def test_the_bottom_0_is_refused(self):
        for top in (0, 1, -1, 5, LONG, -LONG):
            with self.subTest(top=top):
                with self.assertRaises(NoFraction):
                    part(top, 0)
                with self.assertRaises(MendError):
                    part(top, 0)


class Reckoning(FractionCase):
    def agrees(self, own, wanted):
        for one in SOME:
            for other in SOME:
                with self.subTest(one=one, other=other):
                    answer = own(one, other)
                    self.assertEqual(answer, told(wanted(Fraction(*one), Fraction(*other))))
                    self.is_in_form(answer)

    def test_both(self):
        self.assertEqual(both((1, 2), (1, 3)), (5, 6))
        self.assertEqual(both((1, 6), (1, 6)), (1, 3))
        self.assertEqual(both((1, 2), (-1, 2)), (0, 1))
        self.assertEqual(both((-3, 4), (0, 1)), (-3, 4))
        self.agrees(both, lambda one, other: one + other)

    def test_without(self):
        self.assertEqual(without((1, 2), (1, 3)), (1, 6))
        self.assertEqual(without((1, 3), (1, 2)), (-1, 6))
        self.assertEqual(without((5, 6), (5, 6)), (0, 1))
        self.assertEqual(without((0, 1), (3, 4)), (-3, 4))
        self.agrees(without, lambda one, other: one - other)

    def test_by(self):
        self.assertEqual(by((2, 3), (3, 4)), (1, 2))
        self.assertEqual(by((-2, 3), (3, 4)), (-1, 2))
        self.assertEqual(by((-2, 3), (-3, 2)), (1, 1))
        self.assertEqual(by((-2, 3), (0, 1)), (0, 1))
        self.agrees(by, lambda one, other: one * other)

    def test_into(self):
        self.assertEqual(into((2, 3), (4, 3)), (1, 2))
        self.assertEqual(into((4, 3), (2, 3)), (2, 1))
        self.assertEqual(into((2, 3), (-4, 3)), (-1, 2))
        self.assertEqual(into((-2, 3), (-1, 2)), (4, 3))
        self.assertEqual(into((0, 1), (-5, 2)), (0, 1))
        for one in SOME:
            for other in SOME:
                if other != (0, 1):
                    with self.subTest(one=one, other=other):
                        answer = into(one, other)
                        self.assertEqual(answer, told(Fraction(*one) / Fraction(*other)))
                        self.is_in_form(answer)

    def test_into_nought_is_refused(self):
        for one in SOME:
            with self.subTest(one=one):
                with self.assertRaises(NoFraction):
                    into(one, (0, 1))

    def test_like_askings_have_like_answers(self):
        for asking in (both, without, by, into):
            with self.subTest(asking=asking.__name__):
                self.assertEqual(asking((-5, 6), (7, 4)), asking((-5, 6), (7, 4)))


class IsBelow(unittest.TestCase):
    def test_like_and_unlike_bottoms(self):
        self.assertIs(is_below((1, 3), (2, 3)), True)
        self.assertIs(is_below((2, 3), (1, 3)), False)
        self.assertIs(is_below((1, 3), (1, 2)), True)
        self.assertIs(is_below((1, 2), (1, 3)), False)
        self.assertIs(is_below((-1, 2), (-1, 3)), True)
        self.assertIs(is_below((-1, 3), (-1, 2)), False)

    def test_beside_nought(self):
        self.assertIs(is_below((-1, 9), (0, 1)), True)
        self.assertIs(is_below((0, 1), (-1, 9)), False)
        self.assertIs(is_below((0, 1), (1, 9)), True)
        self.assertIs(is_below((1, 9), (0, 1)), False)

    def test_none_is_below_itself(self):
        for one in SOME:
            with self.subTest(one=one):
                self.assertIs(is_below(one, one), False)

    def test_every_pair(self):
        for one in SOME:
            for other in SOME:
                with self.subTest(one=one, other=other):
                    self.assertIs(is_below(one, other), Fraction(*one) < Fraction(*other))

    def test_neighbours_of_many_figures(self):
        self.assertIs(is_below((LONG_TOO - 1, LONG_TOO), (LONG_TOO, LONG_TOO + 1)), True)
        self.assertIs(is_below((LONG_TOO, LONG_TOO + 1), (LONG_TOO - 1, LONG_TOO)), False)


if __name__ == "__main__":
    unittest.main()
