"""What heaps come to: their worths and outcomes, and the outcomes behind their moves."""

from ringheaps.errors import NotSo
from ringheaps.heaps import left_by, moves_of, need_heap
from ringheaps.labels import label_worth, labels_of
from ringheaps.worths import sum_of

# Labels are found anew at each question; so what ends in _by is handed them, and finds them once for many heaps.


def worth_by(labels, heap):
    return sum_of([label_worth(labels[place]) for place in heap])


def outcome_by(labels, heap):
    return worth_by(labels, heap).outcome()


def outcomes_by(ground, labels, heap):
    return [(move, outcome_by(labels, left_by(heap, move))) for move in moves_of(ground, heap)]


def need_outcome_by(labels, heap, wanted):
    found = outcome_by(labels, heap)
    if found != wanted:
        raise NotSo(found)


def heap_worth(ground, heap):
    need_heap(ground, heap)
    return worth_by(labels_of(ground), heap)


def outcome(ground, heap):
    return heap_worth(ground, heap).outcome()


def outcomes_after(ground, heap):
    return outcomes_by(ground, labels_of(ground), heap)
