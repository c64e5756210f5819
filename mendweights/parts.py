"""Fractions, told as (top, bottom) in lowest terms with the bottom above 0."""

from mendweights.errors import NoFraction


def shared_factor(one, other):
    # Never below 0, and 0 of two noughts only, so that dividing by it keeps each sign.
    larger = abs(one)
    smaller = abs(other)
    while smaller != 0:
        rest = larger % smaller
        larger = smaller
        smaller = rest
    return larger


def part(top, bottom):
    if bottom == 0:
        raise NoFraction("a fraction's bottom is not 0")
    factor = shared_factor(top, bottom)
    if bottom < 0:
        factor = -factor
    return (top // factor, bottom // factor)


def both(one, other):
    return part(one[0] * other[1] + other[0] * one[1], one[1] * other[1])


def without(one, other):
    return part(one[0] * other[1] - other[0] * one[1], one[1] * other[1])


def by(one, other):
    return part(one[0] * other[0], one[1] * other[1])


def into(one, other):
    # A nought as the second one makes the new bottom 0, which part refuses.
    return part(one[0] * other[1], one[1] * other[0])


def is_below(one, other):
    # Bottoms are above 0, so multiplying by them turns no comparison round.
    return one[0] * other[1] < other[0] * one[1]
