"""Plays: two players that move by turns, and walks along given moves."""

from ringheaps.errors import NoMove
from ringheaps.heaps import after, is_over, need_heap


def who_won(made):
    # Who is to move on a heap that is over has lost; the first player is to move behind an even number of moves.
    if made % 2 == 0:
        return "second"
    return "first"


def played(ground, heap, first, second, most):
    need_heap(ground, heap)
    # Players are told copies alone, for they may change what they are told.
    now = list(heap)
    moves = []
    while len(moves) < most and not is_over(ground, now):
        player = first if len(moves) % 2 == 0 else second
        move = player(list(now))
        now = after(ground, now, move)
        moves.append(move)
    if is_over(ground, now):
        return (moves, who_won(len(moves)))
    return (moves, "open")


def walk(ground, heap, moves):
    need_heap(ground, heap)
    if not isinstance(moves, list):
        raise NoMove(moves)
    heaps = [list(heap)]
    for move in moves:
        heaps.append(after(ground, heaps[-1], move))
    return heaps
