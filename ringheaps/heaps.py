"""Heaps of tokens on a ground, and their moves."""

from ringheaps.errors import NoHeap, NoMove, TooMany
from ringheaps.ground import need_place
from ringheaps.words import is_whole

MOST_TOKENS = 8


def need_heap(ground, heap):
    if not isinstance(heap, list):
        raise NoHeap(heap)
    if len(heap) > MOST_TOKENS:
        raise TooMany(len(heap))
    for thing in heap:
        need_place(ground, thing)


def moves_of(ground, heap):
    need_heap(ground, heap)
    moves = []
    for token, place in enumerate(heap):
        moves.extend([(token, end) for end in ground.roads_from(place)])
    return moves


def is_over(ground, heap):
    return len(moves_of(ground, heap)) == 0


def is_move(ground, heap, thing):
    # A truth is equal to 0 or 1, yet it is no token's number, so the kind is asked first.
    if not isinstance(thing, tuple) or len(thing) != 2 or not is_whole(thing[0]):
        return False
    return thing in moves_of(ground, heap)


def left_by(heap, move):
    left = list(heap)
    left[move[0]] = move[1]
    return left


def after(ground, heap, move):
    need_heap(ground, heap)
    if not is_move(ground, heap, move):
        raise NoMove(move)
    return left_by(heap, move)
