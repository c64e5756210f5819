"""Products and squares of tuples of numbers, what weights tell of rows, and whole weights."""

from mendweights.errors import NoSide
from mendweights.parts import shared_factor


def product(one, other):
    return sum([first * second for first, second in zip(one, other)])


def square(one):
    return product(one, one)


def lifted(point):
    return point + (1,)


def told_by(weights, point):
    return product(weights, lifted(point))


def turned(number, side):
    # With side 0 turned, a row of either side is told rightly just where this is above 0.
    return number if side == 1 else -number


def turned_products(rows, weights):
    return [turned(told_by(weights, point), side) for point, side in rows]


def are_parted(rows, weights):
    return all([number > 0 for number in turned_products(rows, weights)])


def gap_on(rows, weights):
    return min(turned_products(rows, weights))


def farthest(rows):
    return max([square(lifted(point)) for point, side in rows], default=0)


def look_at_sides(rows, sides):
    for point, side in rows:
        if not 0 <= side < sides:
            raise NoSide(f"there is no side {side}")


def least_multiple(numbers):
    multiple = 1
    for number in numbers:
        multiple = multiple * (number // shared_factor(multiple, number))
    return multiple


def greatest_divisor(numbers):
    divisor = 0
    for number in numbers:
        divisor = shared_factor(divisor, number)
    return divisor


def made_whole(some):
    times = least_multiple([bottom for top, bottom in some])
    wholes = [top * (times // bottom) for top, bottom in some]
    divisor = greatest_divisor(wholes)
    if divisor == 0:
        return tuple(wholes)
    return tuple([whole // divisor for whole in wholes])
