"""The winner: winning moves, and in how many moves a won play is over at most."""

from ringheaps.errors import NotSo
from ringheaps.heaps import left_by, need_heap
from ringheaps.labels import labels_of
from ringheaps.outcomes import need_outcome_by, outcome_by, outcomes_by


def winning_by(ground, labels, heap):
    return [pair[0] for pair in outcomes_by(ground, labels, heap) if pair[1] == "lost"]


def count_by(labels, heap):
    return sum([labels[place][2] for place in heap])


def winner_by(ground, labels, heap):
    # Of several moves with the least count min tells the first one.
    return min(winning_by(ground, labels, heap), key=lambda move: count_by(labels, left_by(heap, move)))


def winning_moves(ground, heap):
    return winning_by(ground, labels_of(ground), heap)


def count_of(ground, heap):
    need_heap(ground, heap)
    labels = labels_of(ground)
    need_outcome_by(labels, heap, "lost")
    return count_by(labels, heap)


def winner(ground, heap):
    need_heap(ground, heap)
    labels = labels_of(ground)
    need_outcome_by(labels, heap, "won")
    return winner_by(ground, labels, heap)


def most_moves(ground, heap):
    need_heap(ground, heap)
    labels = labels_of(ground)
    found = outcome_by(labels, heap)
    if found == "lost":
        return 2 * count_by(labels, heap)
    if found == "won":
        return 1 + 2 * count_by(labels, left_by(heap, winner_by(ground, labels, heap)))
    raise NotSo(found)
