"""Places of the same worth, what parts others, and the least ground of a ground."""

from ringheaps.bits import numbers_in
from ringheaps.ground import Ground, need_place
from ringheaps.labels import label_worth, labels_of
from ringheaps.outcomes import outcome_by


def worths_told(ground):
    labels = labels_of(ground)
    told = {}
    for name in ground.names():
        told[name] = label_worth(labels[name]).told()
    return told


def alike(ground, one, other):
    need_place(ground, one)
    need_place(ground, other)
    told = worths_told(ground)
    return told[one] == told[other]


def parting(ground, one, other):
    if alike(ground, one, other):
        return None
    labels = labels_of(ground)
    triples = [(name, outcome_by(labels, [one, name]), outcome_by(labels, [other, name])) for name in ground.names()]
    # There is one: a place of the number of either, or of a number that only one of two sets has.
    return [triple for triple in triples if triple[1] != triple[2]][0]


def first_places(told):
    # A dict keeps the order in which keys came, here that of the first places of each worth.
    firsts = {}
    for name, worth in told.items():
        firsts.setdefault(worth, name)
    return firsts


def least_row(firsts, worth):
    if worth[0] == "number":
        return (firsts[worth], tuple([firsts[("number", number)] for number in range(worth[1])]))
    ends = [firsts[("number", number)] for number in numbers_in(worth[1])]
    return (firsts[worth], tuple(ends + [firsts[worth]]))


def least_ground(ground):
    told = worths_told(ground)
    firsts = first_places(told)
    least = Ground([least_row(firsts, worth) for worth in firsts])
    places = {}
    for name in told:
        places[name] = firsts[told[name]]
    return (least, places)
