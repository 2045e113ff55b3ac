"""Grounds made of two grounds: joined, or paired."""

from ringheaps.errors import TooMany, Twice
from ringheaps.ground import MOST_PLACES, Ground

PAIR_NAMES = "abcdefghijklmn"


def joined(one, other):
    ahead = one.names()
    for name in other.names():
        if name in ahead:
            raise Twice(name)
    return Ground(one.rows() + other.rows())


def pairs_of(one, other):
    pairs = []
    for name in one.names():
        pairs.extend([(name, beside) for beside in other.names()])
    return pairs


def pairs_behind(one, other, pair):
    ends = [(end, pair[1]) for end in one.roads_from(pair[0])]
    # Both grounds may lead from the pair to itself, but that is one road.
    ends.extend([(pair[0], end) for end in other.roads_from(pair[1]) if (pair[0], end) not in ends])
    return ends


def paired(one, other):
    pairs = pairs_of(one, other)
    if len(pairs) > MOST_PLACES:
        raise TooMany(len(pairs))
    places = {}
    for number, pair in enumerate(pairs):
        places[pair] = PAIR_NAMES[number]
    rows = []
    for pair in pairs:
        rows.append((places[pair], tuple([places[end] for end in pairs_behind(one, other, pair)])))
    return (Ground(rows), places)
