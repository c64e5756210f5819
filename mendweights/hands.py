"""Hands of weights: each tells the side of a point, and is mended by its mistakes."""

from mendweights.errors import NoPoint, NoSide
from mendweights.parts import by
from mendweights.points import lifted, told_by, turned


def moved(weights, point, times):
    return tuple([weight + times * number for weight, number in zip(weights, lifted(point))])


class Hand:
    def __init__(self, many):
        self.many = many
        self.held = (0,) * (many + 1)
        self.made = 0

    def tells(self, point):
        self.look_at(point)
        return self.side_of(point)

    def put(self, point, side):
        if not self.would_err(point, side):
            return False
        self.made = self.made + 1
        self.mend(point, side)
        return True

    def weights(self):
        return self.held

    def mistakes(self):
        return self.made

    def would_err(self, point, side):
        # Apart from put, so that a run can stop ahead of a mistake without making it.
        self.look_at(point)
        if not self.has_side(side):
            raise NoSide(f"this hand has no side {side}")
        return self.is_mistake(point, side)

    def look_at(self, point):
        if len(point) != self.many:
            raise NoPoint("a point for this hand has another number of coordinates")

    def has_side(self, side):
        return side in (0, 1)

    def side_of(self, point):
        told = told_by(self.held, point)
        if told == 0:
            return None
        return 1 if told > 0 else 0

    def is_mistake(self, point, side):
        return self.side_of(point) != side

    def mend(self, point, side):
        pass


class PlainHand(Hand):
    def mend(self, point, side):
        self.held = moved(self.held, point, turned(1, side))


class MarginHand(PlainHand):
    def __init__(self, many, margin):
        PlainHand.__init__(self, many)
        self.margin = margin

    def is_mistake(self, point, side):
        return turned(told_by(self.held, point), side) <= self.margin


class HalvingHand(Hand):
    def __init__(self, many):
        Hand.__init__(self, many)
        self.held = ((1, 1),) * many

    def side_of(self, point):
        switched_on = [weight for weight, number in zip(self.held, point) if number == 1]
        # Each bottom is a power of two, so the greatest is a multiple of all, and no sum need be reduced.
        common = max([bottom for top, bottom in self.held])
        told = sum([top * (common // bottom) for top, bottom in switched_on])
        return 1 if told >= self.many * common else 0

    def mend(self, point, side):
        times = (2, 1) if side == 1 else (1, 2)
        self.held = tuple([by(weight, times) if number == 1 else weight for weight, number in zip(self.held, point)])


class SidesHand(Hand):
    def __init__(self, many, sides):
        Hand.__init__(self, many)
        self.sides = sides
        self.held = ((0,) * (many + 1),) * sides

    def has_side(self, side):
        return 0 <= side < self.sides

    def side_products(self, point):
        return [told_by(weights, point) for weights in self.held]

    def side_of(self, point):
        products = self.side_products(point)
        greatest = max(products)
        if products.count(greatest) > 1:
            return None
        return products.index(greatest)

    def mend(self, point, side):
        products = self.side_products(point)
        others = [number for number in range(self.sides) if number != side]
        # Of like products max takes the first, which is the least numbered side.
        rival = max(others, key=lambda number: products[number])
        held = list(self.held)
        held[side] = moved(held[side], point, 1)
        held[rival] = moved(held[rival], point, -1)
        self.held = tuple(held)
