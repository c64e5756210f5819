import copy
import random
import unittest
from fractions import Fraction
from itertools import combinations, product as every
from math import gcd

from mendweights.nearest import mixture, nearest_shares

LONG = int("7" * 200)


class NearestCase(unittest.TestCase):
    def is_fraction(self, one):
        self.assertIs(type(one), tuple)
        self.assertEqual([type(number) for number in one], [int, int])
        self.assertGreater(one[1], 0)
        self.assertEqual(gcd(one[0], one[1]), 1)

    def are_nearest(self, vectors):
        """All that point 17 tells of the shares; told is the mixture's square."""
        kept = copy.deepcopy(vectors)
        shares = nearest_shares(vectors)
        self.assertEqual(vectors, kept)
        self.assertIs(type(shares), list)
        self.assertEqual(len(shares), len(vectors))
        for share in shares:
            self.is_fraction(share)
            self.assertGreaterEqual(share[0], 0)
        self.assertEqual(sum(Fraction(*share) for share in shares), 1)
        spot = [
            sum(Fraction(*share) * vector[place] for share, vector in zip(shares, vectors) if share[0])
            for place in range(len(vectors[0]))
        ]
        square = sum(number * number for number in spot)
        # Times the common bottom all is whole, which is quicker.
        common = 1
        for number in spot:
            common = common * number.denominator // gcd(common, number.denominator)
        wholes = [int(number * common) for number in spot]
        least = min(sum(one * other for one, other in zip(wholes, vector)) for vector in vectors)
        self.assertGreaterEqual(least * common, sum(number * number for number in wholes))
        answer = mixture(vectors, shares)
        self.assertEqual(answer, tuple((number.numerator, number.denominator) for number in spot))
        return square


class Mixtures(NearestCase):
    def mixes(self, vectors, shares, wanted):
        kept = copy.deepcopy((vectors, shares))
        answer = mixture(vectors, shares)
        self.assertIs(type(answer), tuple)
        self.assertEqual(answer, wanted)
        for number in answer:
            self.is_fraction(number)
        self.assertEqual((vectors, shares), kept)
        self.assertEqual(mixture(vectors, shares), wanted)

    def test_one_vector(self):
        self.mixes([(3,)], [(1, 1)], ((3, 1),))
        self.mixes([(0, -5, 7)], [(1, 1)], ((0, 1), (-5, 1), (7, 1)))

    def test_several(self):
        self.mixes([(1, 0), (0, 1)], [(1, 2), (1, 2)], ((1, 2), (1, 2)))
        self.mixes([(1, 0), (0, 1)], [(1, 3), (2, 3)], ((1, 3), (2, 3)))
        self.mixes([(4, 2), (-2, 6), (1, 1)], [(1, 2), (1, 3), (1, 6)], ((3, 2), (19, 6)))
        self.mixes([(6, 3), (3, 6)], [(1, 3), (2, 3)], ((4, 1), (5, 1)))

    def test_noughts_among_shares_and_sums(self):
        self.mixes([(2, 4), (9, 9)], [(1, 1), (0, 1)], ((2, 1), (4, 1)))
        self.mixes([(2, -4), (-2, 4)], [(1, 2), (1, 2)], ((0, 1), (0, 1)))

    def test_the_same_vector_twice(self):
        self.mixes([(2, 4), (2, 4)], [(1, 7), (6, 7)], ((2, 1), (4, 1)))

    def test_many_figures(self):
        self.mixes([(LONG,), (-LONG,)], [(2, 3), (1, 3)], ((LONG, 3) if LONG % 3 else (LONG // 3, 1),))
        self.mixes([(1,), (0,)], [(1, LONG), (LONG - 1, LONG)], ((1, LONG),))

    def test_like_fractions(self):
        source = random.Random(21)
        for turn in range(40):
            many, size = source.randint(1, 12), source.randint(1, 25)
            vectors = [tuple(source.randint(-50, 50) for place in range(size)) for one in range(many)]
            tops = [source.randint(0, 9) for one in range(many - 1)] + [1]
            shares = [Fraction(top, sum(tops)) for top in tops]
            wanted = [sum(s * v[place] for s, v in zip(shares, vectors)) for place in range(size)]
            self.mixes(
                vectors, [(s.numerator, s.denominator) for s in shares],
                tuple((number.numerator, number.denominator) for number in wanted),
            )


class Nearest(NearestCase):
    def test_one_vector(self):
        for vector in ((0,), (5,), (-3, 4), (0, 0, 0), (LONG, -1), (7,) * 25):
            self.assertEqual(nearest_shares([vector]), [(1, 1)])
            self.assertEqual(self.are_nearest([vector]), sum(number * number for number in vector))

    def test_two_vectors(self):
        self.assertEqual(nearest_shares([(1, 0), (0, 1)]), [(1, 2), (1, 2)])
        self.assertEqual(nearest_shares([(0, 1), (2, 1)]), [(1, 1), (0, 1)])
        self.assertEqual(nearest_shares([(2, 1), (0, 1)]), [(0, 1), (1, 1)])
        self.assertEqual(nearest_shares([(-1, 3), (3, 3)]), [(3, 4), (1, 4)])
        self.assertEqual(nearest_shares([(2, 0), (0, 1)]), [(1, 5), (4, 5)])
        self.assertEqual(self.are_nearest([(2, 0), (0, 1)]), Fraction(4, 5))

    def test_of_one_number_each(self):
        self.assertEqual(nearest_shares([(5,), (3,), (8,)]), [(0, 1), (1, 1), (0, 1)])
        self.assertEqual(nearest_shares([(-5,), (-3,), (-8,)]), [(0, 1), (1, 1), (0, 1)])
        self.assertEqual(self.are_nearest([(5,), (-3,), (8,), (-4,)]), 0)
        self.assertEqual(nearest_shares([(5,), (-3,)]), [(3, 8), (5, 8)])

    def test_three_vectors(self):
        self.assertEqual(nearest_shares([(1, 0, 0), (0, 1, 0), (0, 0, 1)]), [(1, 3)] * 3)
        self.assertEqual(self.are_nearest([(1, 0, 0), (0, 1, 0), (0, 0, 1)]), Fraction(1, 3))
        self.assertEqual(self.are_nearest([(2, 5), (3, 1), (6, 2)]), 10)
        self.assertEqual(nearest_shares([(-1, -1), (2, -1), (-1, 2)]), [(1, 3)] * 3)

    def test_the_start_is_dropped_again(self):
        # The shortest one is without a share in the end: the other two have a mixture that is shorter still.
        vectors = [(3, 0), (2, 8), (2, -8)]
        self.assertEqual(nearest_shares(vectors), [(0, 1), (1, 2), (1, 2)])
        self.assertEqual(self.are_nearest(vectors), 4)

    def test_several_are_dropped_at_once(self):
        vectors = [(3, 1, 1), (3, -1, 1), (3, 1, -1), (3, -1, -1), (1, 40, 40), (1, -40, -40)]
        self.assertEqual(self.are_nearest(vectors), 1)
        for order in (vectors[::-1], vectors[2:] + vectors[:2]):
            self.assertEqual(self.are_nearest(order), 1)

    def test_one_is_dropped_behind_another(self):
        # Where the shares at the first edge go wrong, the search comes back to the same vectors and never ends.
        vectors = [
            (-2, -3, 2), (5, 1, 2), (-3, 2, 1), (4, 2, 2), (5, 2, 2), (-1, 7, 1), (-3, 2, 1), (2, 4, 1), (3, -2, 2),
        ]
        self.assertGreater(self.are_nearest(vectors), 1)

    def test_the_same_vector_more_than_once(self):
        self.assertEqual(self.are_nearest([(3, 4)] * 5), 25)
        self.assertEqual(self.are_nearest([(1, 0), (1, 0), (0, 1), (0, 1), (0, 1)]), Fraction(1, 2))
        self.assertEqual(self.are_nearest([(0, 0)] * 3), 0)
        self.assertEqual(self.are_nearest([(2, -1)] * 4 + [(-2, 1)] * 4), 0)

    def test_vectors_on_one_line(self):
        self.assertEqual(self.are_nearest([(number, 2 * number) for number in range(3, 9)]), 45)
        self.assertEqual(self.are_nearest([(number, 2 * number) for number in range(-4, 9)]), 0)
        self.assertEqual(self.are_nearest([(number, 5) for number in range(-4, 9, 3)]), 25)
        # The line through (0, 5) and (5, 0), and points of it beyond both.
        line = [(number, 5 - number) for number in range(-10, 16)]
        self.assertEqual(self.are_nearest(line), Fraction(25, 2))
        self.assertEqual(self.are_nearest(line[12:]), Fraction(25, 2))
        self.assertEqual(self.are_nearest(line[13:]), 13)
        source = random.Random(22)
        for turn in range(5):
            source.shuffle(line)
            self.assertEqual(self.are_nearest(line), Fraction(25, 2))

    def test_a_mixture_that_is_nought(self):
        self.assertEqual(self.are_nearest([(0, 0), (1, 1)]), 0)
        self.assertEqual(self.are_nearest(list(every((-1, 1), repeat=4))), 0)
        self.assertEqual(self.are_nearest([(1, 0), (-1, 0), (0, 1), (0, -1)]), 0)
        self.assertEqual(self.are_nearest([(5, 1), (-7, 2), (1, -9)]), 0)
        self.assertEqual(self.are_nearest([(4, 4, 1), (-4, -4, -1), (9, 9, 9)]), 0)

    def test_more_vectors_than_numbers(self):
        self.assertEqual(self.are_nearest(list(every((1, 2, 3), repeat=3))), 3)
        self.assertEqual(self.are_nearest(list(every((-1, 0, 2), repeat=4))), 0)
        self.assertEqual(self.are_nearest([(x, y, 4) for x in range(-3, 4) for y in range(-3, 4)]), 16)

    def test_more_numbers_than_vectors(self):
        self.assertEqual(self.are_nearest([(1,) * 25, (2,) * 25, (1,) * 24 + (3,)]), 25)
        self.assertEqual(self.are_nearest([(3,) + (0,) * 24, (0,) * 24 + (4,)]), Fraction(144, 25))

    def test_all_small_ones(self):
        for vectors in combinations(list(every((-2, -1, 0, 1, 3), repeat=2)), 3):
            self.are_nearest(list(vectors))

    def test_no_mixture_of_small_shares_is_nearer(self):
        source = random.Random(23)
        for turn in range(30):
            vectors = [tuple(source.randint(-4, 9) for place in range(3)) for one in range(4)]
            square = self.are_nearest(vectors)
            for tops in every(range(5), repeat=4):
                if sum(tops):
                    sums = [sum(t * v[place] for t, v in zip(tops, vectors)) for place in range(3)]
                    self.assertGreaterEqual(Fraction(sum(n * n for n in sums), sum(tops) ** 2), square)

    def test_many_of_many_kinds(self):
        source = random.Random(24)
        for turn in range(250):
            size, many = source.randint(1, 7), source.randint(1, 24)
            reach = source.choice((1, 2, 5, 100, 10000))
            shift = source.choice((0, 0, reach // 2, reach))
            vectors = [
                tuple(source.randint(-reach, reach) + shift for place in range(size)) for one in range(many)
            ]
            self.are_nearest(vectors)

    def test_asked_again_the_same(self):
        vectors = list(every((-1, 1), repeat=4)) * 2
        first = nearest_shares(vectors)
        kept = list(first)
        nearest_shares([(1, 2), (3, 4)])
        first[0] = None
        first.append(7)
        self.assertEqual(nearest_shares(vectors), kept)
        self.assertEqual(nearest_shares(copy.deepcopy(vectors)), kept)

    def test_many_figures(self):
        self.assertEqual(self.are_nearest([(LONG, 0), (0, LONG)]), Fraction(LONG * LONG, 2))
        self.assertEqual(self.are_nearest([(LONG, 1), (-LONG, 1)]), 1)
        square = Fraction((LONG - 1) ** 2, (2 * LONG - 1) ** 2 + 1)
        self.assertEqual(self.are_nearest([(LONG, 1), (1 - LONG, 0)]), square)
        source = random.Random(25)
        for shift in (0, 10 ** 199):
            self.are_nearest([
                tuple(source.randint(-10 ** 199, 10 ** 199) + shift for place in range(4)) for one in range(20)
            ])


class TheGreatestThatMayCome(NearestCase):
    """256 vectors of 25 numbers each, from -10000 to 10000."""

    def many(self, made):
        return self.are_nearest([made() for one in range(256)])

    def test_all_about(self):
        source = random.Random(26)
        self.assertEqual(self.many(lambda: tuple(source.randint(-10000, 10000) for place in range(25))), 0)
        self.assertEqual(self.many(lambda: tuple(source.choice((-10000, 10000)) for place in range(25))), 0)

    def test_to_one_side(self):
        source = random.Random(27)
        for low in (-9000, -7000, -6000, -5000, -2000, 0):
            self.many(lambda: tuple(source.randint(low, 10000) for place in range(25)))

    def test_on_a_flat_ahead(self):
        source = random.Random(28)
        self.assertEqual(self.many(lambda: tuple(source.randint(-10000, 10000) for p in range(24)) + (10000,)), 10 ** 8)

    def test_just_ahead_of_nought(self):
        source = random.Random(29)
        for high in (1, 3, 200):
            square = self.many(
                lambda: tuple(source.randint(-10000, 10000) for place in range(24)) + (source.randint(1, high),)
            )
            self.assertGreaterEqual(square, 1)

    def test_few_far_and_most_alike(self):
        source = random.Random(30)
        kinds = [tuple(source.randint(-3, 9) for place in range(25)) for one in range(20)]
        self.many(lambda: source.choice(kinds))

    def test_yes_and_no(self):
        source = random.Random(31)
        self.many(lambda: tuple(source.randint(0, 1) for place in range(25)))
        self.many(lambda: tuple(source.choice((-1, 0, 1)) for place in range(25)))

    def test_the_unit_vectors(self):
        units = [tuple(10000 * int(place == one) for place in range(25)) for one in range(25)]
        self.assertEqual(self.are_nearest(units), Fraction(10 ** 8, 25))
        self.assertEqual(self.are_nearest((units * 11)[:256]), Fraction(10 ** 8, 25))


if __name__ == "__main__":
    unittest.main()
