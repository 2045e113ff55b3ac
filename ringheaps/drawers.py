"""The drawer: safe moves, the move that keeps a heap drawn, and the player of a ground."""

from ringheaps.bits import summed
from ringheaps.errors import NotSo
from ringheaps.heaps import left_by, moves_of, need_heap
from ringheaps.labels import labels_of, open_roads
from ringheaps.outcomes import need_outcome_by, outcome_by, outcomes_after
from ringheaps.winners import winner_by


def safe_moves(ground, heap):
    return [pair[0] for pair in outcomes_after(ground, heap) if pair[1] != "won"]


def endless_in(labels, places):
    return [place for place in places if labels[place][0] == "endless"]


def numbers_sum(labels, heap):
    return summed([labels[place][1] for place in heap if labels[place][0] == "number"])


def makes_sum(labels, heap, move, sought):
    # The token on the endless place stays there, and no other one goes to such a place.
    if len(endless_in(labels, [heap[move[0]], move[1]])) > 0:
        return False
    return numbers_sum(labels, left_by(heap, move)) == sought


def drawer_by(ground, labels, heap):
    endless = endless_in(labels, heap)
    place = endless[0]
    token = heap.index(place)
    if len(endless) > 1:
        return (token, endless_in(labels, ground.roads_from(place))[0])
    road = open_roads(ground, labels, place)[0]
    if numbers_sum(labels, heap) == road[0]:
        return (token, road[1])
    return [move for move in moves_of(ground, heap) if makes_sum(labels, heap, move, road[0])][0]


def drawer(ground, heap):
    need_heap(ground, heap)
    labels = labels_of(ground)
    need_outcome_by(labels, heap, "drawn")
    return drawer_by(ground, labels, heap)


def player_by(ground, labels, heap):
    found = outcome_by(labels, heap)
    if found == "won":
        return winner_by(ground, labels, heap)
    if found == "drawn":
        return drawer_by(ground, labels, heap)
    moves = moves_of(ground, heap)
    if len(moves) == 0:
        raise NotSo(found)
    return moves[0]


def player(ground):
    labels = labels_of(ground)

    def tell(heap):
        need_heap(ground, heap)
        return player_by(ground, labels, heap)

    return tell
