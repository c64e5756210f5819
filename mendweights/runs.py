"""Runs of rows through a hand, their books, and the bounds of mistakes."""

from mendweights.errors import NotParted, TooMany, WrongBook
from mendweights.points import are_parted, farthest, gap_on, look_at_sides, square, told_by


def run_once(hand, rows, most, book):
    for number, row in enumerate(rows):
        if hand.would_err(row[0], row[1]):
            if len(book) >= most:
                raise TooMany("the run would make more mistakes than it may")
            hand.put(row[0], row[1])
            book.append(number)


def run(hand, rows, most=5000):
    book = []
    before = None
    while before != len(book):
        before = len(book)
        run_once(hand, rows, most, book)
    return book


def replay(hand, rows, book):
    for place, number in enumerate(book):
        if not 0 <= number < len(rows):
            raise WrongBook(place)
        row = rows[number]
        if not hand.put(row[0], row[1]):
            raise WrongBook(place)
    return len(book)


def bound_of(rows, weights, margin=0):
    if not are_parted(rows, weights):
        raise NotParted("the weights don't part the rows")
    if len(rows) == 0:
        return 0
    gap = gap_on(rows, weights)
    return (farthest(rows) + 2 * margin) * square(weights) // (gap * gap)


def row_gap(point, side, weights):
    products = [told_by(some, point) for some in weights]
    return products[side] - max(products[:side] + products[side + 1:])


def sides_gap(rows, weights):
    look_at_sides(rows, len(weights))
    return min([row_gap(point, side, weights) for point, side in rows])


def sides_bound(rows, weights):
    if len(rows) == 0:
        return 0
    gap = sides_gap(rows, weights)
    if gap <= 0:
        raise NotParted("the weights don't part the rows")
    return 2 * farthest(rows) * sum([square(some) for some in weights]) // (gap * gap)


def halving_bound(many, some):
    # The least b with 2 to the b-th not less than many has as many digits by two as many less 1.
    doublings = (many - 1).bit_length()
    return 3 * some * doublings + 1
