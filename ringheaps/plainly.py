"""Rings, and the plain numbers of grounds without rings."""

from ringheaps.bits import lacking
from ringheaps.errors import Ring


def ends_left(ground, settled, name):
    return [end for end in ground.roads_from(name) if end not in settled]


def settled_next(ground, settled):
    left = [name for name in ground.names() if name not in settled]
    return [name for name in left if len(ends_left(ground, settled, name)) == 0]


def places_to_no_ring(ground):
    # Each place stands behind those to which its roads lead; a place from which a ring can be come to is never settled.
    settled = []
    more = settled_next(ground, settled)
    while len(more) > 0:
        settled.extend(more)
        more = settled_next(ground, settled)
    return settled


def ring_in(ground):
    settled = places_to_no_ring(ground)
    left = [name for name in ground.names() if name not in settled]
    if len(left) == 0:
        return None
    # From each place that is left a road leads to such a one, so the walk comes round.
    walked = []
    name = left[0]
    while name not in walked:
        walked.append(name)
        name = ends_left(ground, settled, name)[0]
    return walked[walked.index(name):]


def plain_numbers(ground):
    found = ring_in(ground)
    if found is not None:
        raise Ring(found)
    numbers = {}
    for name in places_to_no_ring(ground):
        numbers[name] = lacking([numbers[end] for end in ground.roads_from(name)])
    return numbers
