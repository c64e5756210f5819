"""Mixtures of vectors, and the one with the least square, exactly, by Wolfe's way.

A corral holds some of the vectors, so that none lies in the flat through the others. From a mixture within the corral
the way goes straight to the flat's point of least square. Where it would leave the corral, it stops at the edge and
drops the vectors that have no share there. Where it arrives, a vector with a smaller product than those of the corral
is taken in, as the mixture of least square has none such. The square falls from one arriving to the next, so no corral
comes twice, and the search ends.

Shares are reckoned with as tops: whole numbers over their own sum.
"""

from mendweights.parts import part
from mendweights.points import least_multiple, product, square


def mixed(vectors, tops):
    totals = [0] * len(vectors[0])
    for vector, top in zip(vectors, tops):
        if top != 0:
            totals = [total + top * number for total, number in zip(totals, vector)]
    return totals


def mixture(vectors, shares):
    common = least_multiple([bottom for top, bottom in shares])
    tops = [top * (common // bottom) for top, bottom in shares]
    return tuple([part(total, common) for total in mixed(vectors, tops)])


def combined(one, times, other, other_times, divisor):
    return [(times * first + other_times * second) // divisor for first, second in zip(one, other)]


class Corral:
    # The table of the chosen vectors' products, each with 1 added, has an inverse, as none of them lies in the flat
    # through the others. It is kept times the table's determinant: so it is whole, and each division comes out even.
    def __init__(self, vectors):
        self.vectors = vectors
        self.places = []
        self.inverse = []
        self.determinant = 1

    def chosen(self):
        return [self.vectors[place] for place in self.places]

    def take(self, place):
        vector = self.vectors[place]
        column = [product(other, vector) + 1 for other in self.chosen()]
        image = [product(line, column) for line in self.inverse]
        grown = self.determinant * (square(vector) + 1) - product(column, image)
        lines = []
        for line, times in zip(self.inverse, image):
            lines.append(combined(line, grown, image, times, self.determinant) + [-times])
        lines.append([-number for number in image] + [self.determinant])
        self.places = self.places + [place]
        self.inverse = lines
        self.determinant = grown

    def drop(self, index):
        pivot = self.inverse[index]
        shrunk = pivot[index]
        lines = []
        for line in self.inverse[:index] + self.inverse[index + 1:]:
            fresh = combined(line, shrunk, pivot, -line[index], self.determinant)
            lines.append(fresh[:index] + fresh[index + 1:])
        self.places = self.places[:index] + self.places[index + 1:]
        self.inverse = lines
        self.determinant = shrunk

    def drop_noughts(self, tops):
        # From the last one on, so that those ahead keep their index.
        for index in range(len(tops) - 1, -1, -1):
            if tops[index] == 0:
                self.drop(index)
        return [top for top in tops if top != 0]

    def flat_tops(self):
        # The point of least square in the flat has like products with all of the corral.
        return [sum(line) for line in self.inverse]


def first_edge(tops, aims):
    # The share that is the first to fall to nought has the least aim beside its top; a top of 0 has an aim above 0.
    first = 0
    for index in range(1, len(tops)):
        if aims[index] * tops[first] < aims[first] * tops[index]:
            first = index
    return first


def at_the_edge(tops, aims):
    first = first_edge(tops, aims)
    return [tops[first] * aim - aims[first] * top for top, aim in zip(tops, aims)]


def arrived(corral, tops):
    aims = corral.flat_tops()
    while min(aims) <= 0:
        tops = corral.drop_noughts(at_the_edge(tops, aims))
        aims = corral.flat_tops()
    return aims


def search(corral, tops):
    while True:
        spot = mixed(corral.chosen(), tops)
        products = [product(spot, vector) for vector in corral.vectors]
        least = min(products)
        if least == products[corral.places[0]]:
            return tops
        corral.take(products.index(least))
        tops = arrived(corral, tops + [0])


def nearest_shares(vectors):
    squares = [square(vector) for vector in vectors]
    corral = Corral(vectors)
    corral.take(squares.index(min(squares)))
    tops = search(corral, [1])
    total = sum(tops)
    shares = [(0, 1)] * len(vectors)
    for place, top in zip(corral.places, tops):
        shares[place] = part(top, total)
    return shares


def nearest_mixture(vectors):
    return mixture(vectors, nearest_shares(vectors))
