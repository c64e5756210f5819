"""Several sides: weights for each of them that part the rows, or shares by which none can."""

from mendweights.nearest import nearest_mixture, nearest_shares
from mendweights.points import lifted, look_at_sides, made_whole, square


def rivals_of(rows, sides):
    look_at_sides(rows, sides)
    rivals = []
    for number, row in enumerate(rows):
        rivals.extend([(number, other) for other in range(sides) if other != row[1]])
    return rivals


def times_at(side, own, other):
    if side == own:
        return 1
    return -1 if side == other else 0


def vector_of(row, other, sides):
    # Its product with the weights of all sides, one behind the other, is the row's gap to the other side.
    vector = ()
    for side in range(sides):
        times = times_at(side, row[1], other)
        vector = vector + tuple([times * number for number in lifted(row[0])])
    return vector


def vectors_of(rows, sides):
    return [vector_of(rows[number], other, sides) for number, other in rivals_of(rows, sides)]


def several_parting(rows, sides):
    size = len(lifted(rows[0][0]))
    vectors = vectors_of(rows, sides)
    if len(vectors) == 0:
        # One side alone has no other beside it, so any weights part its rows.
        return ((0,) * (size - 1) + (1,),)
    whole = made_whole(nearest_mixture(vectors))
    if square(whole) == 0:
        return None
    return tuple([whole[side * size:(side + 1) * size] for side in range(sides)])


def several_mixture(rows, sides):
    if several_parting(rows, sides) is not None:
        return None
    shares = nearest_shares(vectors_of(rows, sides))
    return [rival + (share,) for rival, share in zip(rivals_of(rows, sides), shares)]
