"""Two sides: weights that part them, or mixtures that meet; the width between them, and the rows that hold it."""

from mendweights.errors import OneSide
from mendweights.nearest import nearest_mixture, nearest_shares
from mendweights.parts import both, by, part
from mendweights.points import look_at_sides, made_whole, product


def numbers_of(rows, side):
    return [number for number, row in enumerate(rows) if row[1] == side]


def points_of(rows, side):
    return [point for point, its_side in rows if its_side == side]


def are_of_both(rows):
    return len(points_of(rows, 0)) > 0 and len(points_of(rows, 1)) > 0


def look_at_both(rows):
    look_at_sides(rows, 2)
    if not are_of_both(rows):
        raise OneSide("the rows are of one side")


def pairs_of(rows):
    pairs = []
    for one in numbers_of(rows, 1):
        for other in numbers_of(rows, 0):
            pairs.append((one, other))
    return pairs


def less(one, other):
    return tuple([first - second for first, second in zip(one, other)])


def differences(rows):
    return [less(rows[one][0], rows[other][0]) for one, other in pairs_of(rows)]


def nearest_difference(rows):
    return nearest_mixture(differences(rows))


def one_side_weights(rows):
    constant = 1 if len(points_of(rows, 1)) > 0 else -1
    return (0,) * len(rows[0][0]) + (constant,)


def parting(rows):
    look_at_sides(rows, 2)
    if not are_of_both(rows):
        return one_side_weights(rows)
    # Made whole ahead of the constant too: the weights differ by a factor above 0, which they lose at the end.
    way = made_whole(nearest_difference(rows))
    if product(way, way) == 0:
        return None
    least = min([product(way, point) for point in points_of(rows, 1)])
    greatest = max([product(way, point) for point in points_of(rows, 0)])
    return made_whole(tuple([(number, 1) for number in way]) + (part(-least - greatest, 2),))


def sides_mixture(rows):
    look_at_both(rows)
    shares = [(0, 1)] * len(rows)
    for pair, share in zip(pairs_of(rows), nearest_shares(differences(rows))):
        for number in pair:
            shares[number] = both(shares[number], share)
    return shares


def width_square(rows):
    look_at_both(rows)
    total = (0, 1)
    for number in nearest_difference(rows):
        total = both(total, by(number, number))
    return total


def hold(rows, numbers, width):
    some = [rows[number] for number in numbers]
    return are_of_both(some) and width_square(some) == width


def holders(rows):
    # Rows without a share can go at once. Fewer rows never have a smaller width, so a row that was needed beside more
    # rows is needed beside fewer, and one walk is enough.
    width = width_square(rows)
    numbers = [number for number, share in enumerate(sides_mixture(rows)) if share != (0, 1)]
    for number in list(numbers):
        others = [other for other in numbers if other != number]
        if hold(rows, others, width):
            numbers = others
    return numbers
