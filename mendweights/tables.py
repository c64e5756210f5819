"""Truth tables: the rows of one, the weights or the mixture that tell of it, and the ways of its inputs."""

from mendweights.errors import NoTable
from mendweights.points import told_by
from mendweights.widths import parting, sides_mixture

INPUTS = {2: 1, 4: 2, 8: 3, 16: 4}


def inputs_of(truths):
    if len(truths) not in INPUTS:
        raise NoTable("a table of 1 to 4 inputs has 2, 4, 8 or 16 truths")
    return INPUTS[len(truths)]


def places_of(inputs):
    # Each input more is the highest digit so far: all places up to then without it, and behind them all with it.
    places = [()]
    for number in range(inputs):
        places = [place + (0,) for place in places] + [place + (1,) for place in places]
    return places


def rows_of(truths):
    places = places_of(inputs_of(truths))
    return [(place, 1 if truth else 0) for place, truth in zip(places, truths)]


def table_weights(truths):
    return parting(rows_of(truths))


def table_mixture(truths):
    rows = rows_of(truths)
    if parting(rows) is not None:
        return None
    return sides_mixture(rows)


def table_of(weights):
    return [told_by(weights, place) > 0 for place in places_of(len(weights) - 1)]


def way_of(truths, step):
    lower = [place for place in range(len(truths)) if place // step % 2 == 0]
    rises = any([truths[place + step] and not truths[place] for place in lower])
    falls = any([truths[place] and not truths[place + step] for place in lower])
    if rises and falls:
        return None
    if rises:
        return 1
    return -1 if falls else 0


def ways_of(truths):
    ways = []
    step = 1
    for number in range(inputs_of(truths)):
        ways.append(way_of(truths, step))
        step = step * 2
    return ways
