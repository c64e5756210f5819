import copy
import random
import unittest
from itertools import product as every

from mendweights.errors import NoPoint, NoSide, NotParted, TooMany, WrongBook
from mendweights.hands import HalvingHand, Hand, MarginHand, PlainHand, SidesHand
from mendweights.points import are_parted
from mendweights.runs import bound_of, halving_bound, replay, run, sides_bound, sides_gap

LONG = int("7" * 200)
PARTED = [((2, 1), 1), ((3, -1), 1), ((-1, 0), 0), ((-2, 4), 0)]
CROSSED = [((0, 0), 0), ((1, 1), 0), ((0, 1), 1), ((1, 0), 1)]
THREE = [((0, 4), 0), ((1, 5), 0), ((4, -3), 1), ((5, -2), 1), ((-4, -3), 2), ((-5, -1), 2)]
OR_ROWS = [(bits, int(bits[0] or bits[2])) for bits in every((0, 1), repeat=4)]

KINDS = [
    (lambda: PlainHand(2), PARTED),
    (lambda: MarginHand(2, 0), PARTED),
    (lambda: MarginHand(2, 40), PARTED),
    (lambda: HalvingHand(4), OR_ROWS),
    (lambda: SidesHand(2, 2), PARTED),
    (lambda: SidesHand(2, 3), THREE),
    (lambda: SidesHand(2, 5), THREE),
]


def book_by_putting(hand, rows):
    book = []
    since = 0
    while since < len(rows):
        for number, (point, side) in enumerate(rows):
            if hand.put(point, side):
                book.append(number)
                since = 0
            else:
                since += 1
    return book


def state(hand):
    return (hand.weights(), hand.mistakes())


class Runs(unittest.TestCase):
    def test_a_run_by_hand(self):
        hand = PlainHand(1)
        rows = [((1,), 1), ((3,), 0)]
        # The weights go (1, 1), (-2, 0), (-1, 1), (0, 2), (-3, 1), (-2, 2), (-1, 3), (-4, 2), ..
        book = run(hand, rows)
        self.assertEqual(book[:8], [0, 1, 0, 0, 1, 0, 0, 1])
        self.assertEqual(book, book_by_putting(PlainHand(1), rows))
        self.assertEqual(hand.mistakes(), len(book))
        self.assertTrue(are_parted(rows, hand.weights()))

    def test_a_run_of_each_kind(self):
        for place, (made, rows) in enumerate(KINDS):
            with self.subTest(place=place):
                hand, other = made(), made()
                book = run(hand, rows)
                self.assertIs(type(book), list)
                self.assertEqual(book, book_by_putting(other, rows))
                self.assertEqual(state(hand), state(other))
                self.assertGreater(len(book), 0)
                self.assertEqual(hand.mistakes(), len(book))
                for point, side in rows:
                    self.assertEqual(hand.tells(point), side)

    def test_a_second_run_is_empty(self):
        for place, (made, rows) in enumerate(KINDS):
            with self.subTest(place=place):
                hand = made()
                run(hand, rows)
                kept = state(hand)
                self.assertEqual(run(hand, rows), [])
                self.assertEqual(run(hand, rows, 0), [])
                self.assertEqual(state(hand), kept)

    def test_a_mended_hand_goes_on_from_where_it_was(self):
        hand, other = PlainHand(2), PlainHand(2)
        for one in (hand, other):
            one.put((-7, 3), 1)
            one.put((-7, 3), 1)
        book = run(hand, PARTED)
        self.assertEqual(book, book_by_putting(other, PARTED))
        self.assertEqual(state(hand), state(other))
        self.assertEqual(hand.mistakes(), len(book) + 1)

    def test_without_rows(self):
        for made, rows in KINDS + [(lambda: Hand(2), [])]:
            hand = made()
            fresh = state(hand)
            for book in (run(hand, []), run(hand, [], 0), run(hand, [], 5000)):
                self.assertIs(type(book), list)
                self.assertEqual(book, [])
            self.assertEqual(state(hand), fresh)

    def test_the_same_row_twice(self):
        hand = PlainHand(1)
        self.assertEqual(run(hand, [((5,), 1), ((5,), 1), ((5,), 1)]), [0])
        self.assertEqual(hand.mistakes(), 1)
        hand = MarginHand(1, 30)
        self.assertEqual(run(hand, [((5,), 1), ((5,), 1), ((5,), 1)]), [0, 1])


class TheMost(unittest.TestCase):
    def test_just_as_many_and_one_more(self):
        for place, (made, rows) in enumerate(KINDS):
            with self.subTest(place=place):
                wanted = run(made(), rows)
                hand = made()
                self.assertEqual(run(hand, rows, len(wanted)), wanted)
                hand = made()
                self.assertEqual(run(hand, rows, most=len(wanted) + 1), wanted)
                for most in sorted({0, 1, len(wanted) - 1}):
                    hand, other = made(), made()
                    if most < len(wanted):
                        with self.assertRaises(TooMany):
                            run(hand, rows, most)
                        self.assertEqual(hand.mistakes(), most)
                        for number in wanted[:most]:
                            other.put(*rows[number])
                        self.assertEqual(state(hand), state(other))

    def test_a_most_of_0(self):
        for made, rows in KINDS:
            hand = made()
            fresh = state(hand)
            with self.assertRaises(TooMany):
                run(hand, rows, 0)
            self.assertEqual(state(hand), fresh)

    def test_it_counts_this_runs_mistakes_alone(self):
        hand = PlainHand(2)
        hand.put((-7, 3), 1)
        hand.put((7, -3), 0)
        hand.put((0, 0), 0)
        before = hand.mistakes()
        self.assertGreater(before, 0)
        book = run(hand, PARTED)
        self.assertEqual(hand.mistakes(), before + len(book))
        hand = Hand(1)
        for turn in range(4):
            hand.put((1,), 1)
        with self.assertRaises(TooMany):
            run(hand, [((1,), 1)], 3)
        self.assertEqual(hand.mistakes(), 7)

    def test_left_out_it_is_5000(self):
        hand = Hand(1)
        with self.assertRaises(TooMany):
            run(hand, [((1,), 1)])
        self.assertEqual(hand.mistakes(), 5000)
        hand = PlainHand(2)
        with self.assertRaises(TooMany):
            run(hand, CROSSED)
        self.assertEqual(hand.mistakes(), 5000)
        hand = HalvingHand(2)
        with self.assertRaises(TooMany):
            run(hand, [((1, 1), 0), ((1, 0), 1)])
        self.assertEqual(hand.mistakes(), 5000)

    def test_just_5000_mistakes_are_taken(self):
        hand = MarginHand(1, 2 * 5000 - 1)
        self.assertEqual(run(hand, [((1,), 1)]), [0] * 5000)
        self.assertEqual(hand.weights(), (5000, 5000))
        hand = MarginHand(1, 2 * 5000)
        with self.assertRaises(TooMany):
            run(hand, [((1,), 1)])
        self.assertEqual(hand.weights(), (5000, 5000))


class RefusedInARun(unittest.TestCase):
    def test_what_came_before_has_been_put_in(self):
        for made in (lambda: Hand(2), lambda: PlainHand(2), lambda: MarginHand(2, 9), lambda: HalvingHand(2)):
            for bad, refusal in ((((1,), 1), NoPoint), (((1, 1), 2), NoSide), (((1, 1, 1), -1), NoPoint)):
                hand, other = made(), made()
                rows = [((1, 0), 1), ((0, 1), 0), bad, ((1, 1), 0)]
                with self.assertRaises(refusal):
                    run(hand, rows)
                other.put((1, 0), 1)
                other.put((0, 1), 0)
                self.assertEqual(state(hand), state(other))
        hand, other = SidesHand(2, 3), SidesHand(2, 3)
        with self.assertRaises(NoSide):
            run(hand, [((1, 0), 2), ((1, 0), 3)])
        other.put((1, 0), 2)
        self.assertEqual(state(hand), state(other))

    def test_whichever_comes_first(self):
        rows = [((1, 0), 1), ((1,), 1)]
        hand = PlainHand(2)
        with self.assertRaises(TooMany):
            run(hand, rows, 0)
        self.assertEqual(hand.mistakes(), 0)
        hand = PlainHand(2)
        with self.assertRaises(NoPoint):
            run(hand, rows, 1)
        self.assertEqual(hand.mistakes(), 1)
        with self.assertRaises(NoSide):
            run(PlainHand(2), [((1, 0), 5)], 0)


class Books(unittest.TestCase):
    def test_a_runs_book_replays(self):
        for place, (made, rows) in enumerate(KINDS):
            with self.subTest(place=place):
                hand, other = made(), made()
                book = run(hand, rows)
                number = replay(other, rows, book)
                self.assertIs(type(number), int)
                self.assertEqual(number, len(book))
                self.assertEqual(state(other), state(hand))

    def test_an_empty_book(self):
        hand = PlainHand(2)
        self.assertEqual(replay(hand, PARTED, []), 0)
        self.assertEqual(replay(hand, [], []), 0)
        self.assertEqual(state(hand), ((0, 0, 0), 0))

    def is_wrong(self, made, rows, book, place):
        hand, other = made(), made()
        with self.assertRaises(WrongBook) as caught:
            replay(hand, rows, book)
        self.assertEqual(caught.exception.place, place)
        for number in book[:place]:
            self.assertIs(other.put(*rows[number]), True)
        self.assertEqual(state(hand), state(other))

    def test_a_row_that_there_is_not(self):
        for place, (made, rows) in enumerate(KINDS):
            book = run(made(), rows)
            for number in (-1, -2, -len(rows), len(rows), len(rows) + 1, LONG, -LONG):
                with self.subTest(place=place, number=number):
                    self.is_wrong(made, rows, [number], 0)
                    self.is_wrong(made, rows, [number] + book, 0)
                    self.is_wrong(made, rows, book[:1] + [number] + book[1:], 1)
                    self.is_wrong(made, rows, book + [number], len(book))

    def test_no_rows_at_all(self):
        self.is_wrong(lambda: PlainHand(2), [], [0], 0)
        self.is_wrong(lambda: PlainHand(2), [], [-1], 0)

    def test_a_row_that_is_no_mistake(self):
        for place, (made, rows) in enumerate(KINDS):
            book = run(made(), rows)
            for number in range(len(rows)):
                with self.subTest(place=place, number=number):
                    self.is_wrong(made, rows, book + [number], len(book))
                    self.is_wrong(made, rows, book + [number, -1], len(book))
        self.is_wrong(lambda: PlainHand(1), [((1,), 1)], [0, 0], 1)

    def test_a_book_of_its_own_is_taken(self):
        hand = PlainHand(2)
        self.assertEqual(replay(hand, PARTED, [3, 0]), 2)
        self.assertEqual(state(hand), ((4, -3, 0), 2))

    def test_a_row_that_the_hand_refuses(self):
        rows = [((1, 0), 1), ((1,), 1), ((1, 1), 2)]
        for book, refusal in (([0, 1], NoPoint), ([0, 2], NoSide), ([0, 2, -1], NoSide)):
            hand = PlainHand(2)
            with self.assertRaises(refusal):
                replay(hand, rows, book)
            self.assertEqual(state(hand), ((1, 0, 1), 1))
        hand = PlainHand(2)
        with self.assertRaises(WrongBook):
            replay(hand, rows, [0, 3, 1])


class Bounds(unittest.TestCase):
    def is_number(self, answer, wanted):
        self.assertIs(type(answer), int)
        self.assertEqual(answer, wanted)

    def test_bound_of(self):
        # The farthest square is 21, the gap 1, the weights' square 1.
        self.is_number(bound_of(PARTED, (1, 0, 0)), 21)
        self.is_number(bound_of(PARTED, (7, 0, 0)), 21)
        self.is_number(bound_of([((5,), 1)], (0, 1)), 26)
        self.is_number(bound_of([((5,), 0)], (0, -1)), 26)
        # 26 times 10 by 256; 26 times 2 by 36; 5 times 8 by 4.
        self.is_number(bound_of([((5,), 1)], (3, 1)), 1)
        self.is_number(bound_of([((5,), 1)], (1, 1)), 1)
        self.is_number(bound_of([((2,), 1)], (2, -2)), 10)
        # 10 times 29 by 1; 2 times 10 by 1; 2 times 29 by 4.
        self.is_number(bound_of([((3,), 1), ((2,), 0)], (2, -5)), 290)
        self.is_number(bound_of([((1,), 1), ((0,), 0)], (3, -1)), 20)
        self.is_number(bound_of([((1,), 1), ((0,), 0)], (5, -2)), 14)

    def test_bound_of_with_a_margin(self):
        self.is_number(bound_of(PARTED, (1, 0, 0), 0), 21)
        self.is_number(bound_of(PARTED, (1, 0, 0), 1), 23)
        self.is_number(bound_of(PARTED, (1, 0, 0), margin=1000), 2021)
        # 2 and 6 together, times 29, by 4.
        self.is_number(bound_of([((1,), 1), ((0,), 0)], (5, -2), 3), 58)
        # 2 and 2 together, times 73, by 9.
        self.is_number(bound_of([((1,), 1), ((0,), 0)], (8, -3), 1), 32)

    def test_bound_of_no_rows(self):
        for weights in ((0, 0), (1, 2, 3), (0, 0, -1)):
            self.is_number(bound_of([], weights), 0)
            self.is_number(bound_of([], weights, 1000), 0)

    def test_bound_of_many_figures(self):
        self.is_number(bound_of(PARTED, (LONG, 0, 0)), 21)
        self.is_number(bound_of([((LONG,), 1)], (1, 0)), 1)
        self.is_number(bound_of([((LONG,), 1), ((-1,), 0)], (1, 0)), LONG * LONG + 1)

    def test_weights_that_do_not_part(self):
        for weights in ((0, 0, 0), (-1, 0, 0), (0, 1, 0), (1, 0, -2), (1, 0, 1)):
            for handed in ((), (0,), (7,)):
                with self.assertRaises(NotParted):
                    bound_of(PARTED, weights, *handed)
        with self.assertRaises(NotParted):
            bound_of([((4,), 1)], (1, -4))
        with self.assertRaises(NotParted):
            bound_of([((4,), 0)], (1, -4))

    def test_sides_gap(self):
        three = ((0, 2, 0), (2, -1, 0), (-2, -1, 0))
        self.is_number(sides_gap([((0, 4), 0)], three), 12)
        # Of (1, 5) 10, -3, -7; of (5, -2) -4, 12, -8; of (-5, -1) -2, -9, 11.
        self.is_number(sides_gap([((1, 5), 0), ((5, -2), 1), ((-5, -1), 2)], three), 13)
        self.is_number(sides_gap(THREE, three), 12)
        self.is_number(sides_gap([((0, 0), 0)], three), 0)
        self.is_number(sides_gap([((0, 0), 2), ((0, 4), 0)], three), 0)
        # Of (0, 4) 8, -4, -4: side 1 is 12 behind side 0.
        self.is_number(sides_gap([((0, 4), 1)], three), -12)
        self.is_number(sides_gap(THREE + [((0, 4), 1)], three), -12)
        self.is_number(sides_gap([((3,), 1)], ((1, 0), (2, 1))), 4)
        self.is_number(sides_gap([((3,), 0)], ((1, 0), (2, 1))), -4)
        self.is_number(sides_gap([((1,), 4)], ((LONG, 0), (1, 0), (2, 0), (3, 0), (0, 0))), -LONG)

    def test_sides_gap_like_all_differences(self):
        source = random.Random(11)
        for many in range(1, 5):
            for sides in range(2, 6):
                rows = [
                    (tuple(source.randint(-9, 9) for place in range(many)), source.randrange(sides))
                    for turn in range(8)
                ]
                weights = tuple(
                    tuple(source.randint(-9, 9) for place in range(many + 1)) for side in range(sides)
                )
                wanted = min(
                    sum((a - b) * c for a, b, c in zip(weights[side], weights[other], point + (1,)))
                    for point, side in rows for other in range(sides) if other != side
                )
                self.is_number(sides_gap(rows, weights), wanted)

    def test_sides_bound(self):
        three = ((0, 2, 0), (2, -1, 0), (-2, -1, 0))
        # The farthest square is 30, the squares 14 together, the gap 12: 840 by 144.
        self.is_number(sides_bound(THREE, three), 5)
        self.is_number(sides_bound([((0, 4), 0)], three), 3)
        # Twice 10, times 6, by 16: 120 by 16.
        self.is_number(sides_bound([((3,), 1)], ((1, 0), (2, 1))), 7)
        # Twice 1, times 52, by 4; twice 1, times 2, by 4.
        self.is_number(sides_bound([((0,), 1)], ((5, -1), (-5, 1))), 26)
        self.is_number(sides_bound([((0,), 1)], ((0, -1), (0, 1))), 1)

    def test_sides_bound_of_no_rows(self):
        self.is_number(sides_bound([], ((0, 0), (0, 0))), 0)
        self.is_number(sides_bound([], ((0, 2, 0), (2, -1, 0), (-2, -1, 0))), 0)

    def test_sides_bound_of_weights_that_do_not_part(self):
        three = ((0, 2, 0), (2, -1, 0), (-2, -1, 0))
        for rows in ([((0, 0), 0)], [((0, 4), 1)], THREE + [((0, 4), 2)], [((0, 4), 2)] + THREE):
            with self.assertRaises(NotParted):
                sides_bound(rows, three)
        with self.assertRaises(NotParted):
            sides_bound(THREE, ((0, 0, 0),) * 3)

    def test_a_side_without_weights(self):
        two = ((0, 2, 0), (2, -1, 0))
        for side in (-1, -2, 2, 3, LONG, -LONG):
            for rows in ([((0, 4), side)], [((0, 4), 0), ((0, 4), side)], [((0, 4), 1), ((0, 4), side)]):
                with self.subTest(rows=rows):
                    with self.assertRaises(NoSide):
                        sides_gap(rows, two)
                    with self.assertRaises(NoSide):
                        sides_bound(rows, two)

    def test_halving_bound(self):
        doublings = {1: 0, 2: 1, 3: 2, 4: 2, 5: 3, 6: 3, 7: 3, 8: 3, 9: 4, 10: 4, 11: 4, 12: 4}
        for many in range(1, 13):
            for some in range(many + 1):
                self.is_number(halving_bound(many, some), 3 * some * doublings[many] + 1)
        self.is_number(halving_bound(12, 12), 145)
        self.is_number(halving_bound(1, 1), 1)
        self.is_number(halving_bound(8, 2), 19)


class NeverMoreThanTheBounds(unittest.TestCase):
    """Point 4: in whatever order and however often the rows are put in."""

    def putting(self, hand, rows, source, bound):
        for turn in range(12):
            order = list(rows) * 2
            source.shuffle(order)
            for point, side in order:
                hand.put(point, side)
            self.assertLessEqual(hand.mistakes(), bound)
        run(hand, rows)
        self.assertLessEqual(hand.mistakes(), bound)
        for point, side in rows:
            self.assertEqual(hand.tells(point), side)

    def test_plain_hands_and_hands_with_a_margin(self):
        source = random.Random(12)
        for many in range(1, 5):
            for turn in range(12):
                weights = tuple(source.randint(-6, 6) for place in range(many + 1))
                points = [tuple(source.randint(-9, 9) for place in range(many)) for one in range(10)]
                products = [(p, sum(a * b for a, b in zip(weights, p + (1,)))) for p in points]
                rows = [(point, int(number > 0)) for point, number in products if number != 0]
                self.assertTrue(are_parted(rows, weights))
                self.putting(PlainHand(many), rows, source, bound_of(rows, weights))
                for margin in (0, 3, 50):
                    bound = bound_of(rows, weights, margin)
                    self.putting(MarginHand(many, margin), rows, source, bound)

    def test_a_bound_that_is_reached(self):
        rows = [((0,), 1)]
        hand = PlainHand(1)
        self.assertEqual(run(hand, rows, 1), [0])
        self.assertEqual(bound_of(rows, (0, 1)), 1)
        hand = MarginHand(1, 5)
        self.assertEqual(run(hand, rows), [0] * 6)
        self.assertEqual(bound_of(rows, (0, 1), 5), 11)

    def test_hands_for_several_sides(self):
        source = random.Random(13)
        for many in range(1, 5):
            for sides in range(2, 6):
                weights = tuple(
                    tuple(source.randint(-6, 6) for place in range(many + 1)) for side in range(sides)
                )
                rows = []
                for turn in range(14):
                    point = tuple(source.randint(-9, 9) for place in range(many))
                    products = [sum(a * b for a, b in zip(some, point + (1,))) for some in weights]
                    if products.count(max(products)) == 1:
                        rows.append((point, products.index(max(products))))
                self.putting(SidesHand(many, sides), rows, source, sides_bound(rows, weights))

    def test_hands_by_halves(self):
        source = random.Random(14)
        for many in range(1, 13):
            for some in range(many + 1):
                telling = source.sample(range(many), some)
                hand = HalvingHand(many)
                for turn in range(150):
                    point = tuple(int(source.random() < 0.4) for place in range(many))
                    hand.put(point, int(any(point[place] for place in telling)))
                self.assertLessEqual(hand.mistakes(), halving_bound(many, some))

    def test_hands_by_halves_on_every_point(self):
        for many in range(1, 6):
            for some in range(many + 1):
                points = list(every((0, 1), repeat=many))
                for order in (points, points[::-1], sorted(points, key=sum)):
                    hand = HalvingHand(many)
                    rows = [(point, int(any(point[:some]))) for point in order]
                    book = run(hand, rows)
                    self.assertLessEqual(len(book), halving_bound(many, some))
                    for point, side in rows:
                        self.assertEqual(hand.tells(point), side)


class HandedIn(unittest.TestCase):
    def test_rows_and_books_stay_as_they_were(self):
        for made, rows in KINDS:
            handed = copy.deepcopy(rows)
            book = run(made(), handed)
            self.assertEqual(handed, rows)
            kept = list(book)
            replay(made(), handed, book)
            self.assertEqual((handed, book), (rows, kept))
            with self.assertRaises(WrongBook):
                replay(made(), handed, book + [-1])
            with self.assertRaises(TooMany):
                run(made(), handed, 0)
            self.assertEqual((handed, book), (rows, kept))

    def test_rows_stay_as_they_were_by_the_bounds(self):
        handed = copy.deepcopy(PARTED)
        bound_of(handed, (1, 0, 0))
        self.assertEqual(handed, PARTED)
        handed = copy.deepcopy(THREE)
        sides_gap(handed, ((0, 2, 0), (2, -1, 0), (-2, -1, 0)))
        sides_bound(handed, ((0, 2, 0), (2, -1, 0), (-2, -1, 0)))
        self.assertEqual(handed, THREE)

    def test_a_book_is_a_new_list_each_time(self):
        first = run(PlainHand(2), PARTED)
        kept = list(first)
        first.append(99)
        second = run(PlainHand(2), PARTED)
        self.assertEqual(second, kept)
        empty = run(PlainHand(2), [])
        empty.append(1)
        self.assertEqual(run(PlainHand(2), []), [])

    def test_a_hand_keeps_nothing_of_the_list(self):
        rows = copy.deepcopy(PARTED)
        hand = PlainHand(2)
        run(hand, rows)
        kept = state(hand)
        rows.clear()
        self.assertEqual(state(hand), kept)
        self.assertEqual(run(hand, PARTED), [])


if __name__ == "__main__":
    unittest.main()
