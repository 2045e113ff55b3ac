import itertools
import unittest

from helper import (
    NO_HEAPS, RULES, THREE_ROUND, TWO_ZEROS, WITH_RINGS, Player, RefusalCase, all_grounds, all_heaps,
    grounds_for_plays, heaps_of, heaps_on, ladder, mixed_grounds, rows_with, turned_round,
)
from ringheaps.drawers import drawer, player, safe_moves
from ringheaps.errors import NotSo
from ringheaps.ground import Ground
from ringheaps.groundtext import read_ground
from ringheaps.heaps import after, is_over, moves_of
from ringheaps.labels import labels_of, open_road
from ringheaps.outcomes import outcome
from ringheaps.plays import played, walk
from ringheaps.winners import winner

# Each one: a text of a ground, a drawn heap and its drawer's move.
DRAWN_BY_HAND = [
    # Two tokens and more on endless places: the first one goes, to the first endless place.
    (WITH_RINGS, ["e", "f"], (0, "e")),
    (WITH_RINGS, ["o", "f", "e"], (1, "f")),
    (WITH_RINGS, ["i", "j", "g", "f", "e"], (2, "g")),
    (WITH_RINGS, ["f"] * 8, (0, "f")),
    (THREE_ROUND, ["t", "s"], (0, "s")),
    (THREE_ROUND, ["s", "t"], (0, "t")),
    (THREE_ROUND, ["i", "u", "u", "i"], (1, "s")),
    # One, and the sum of the others is the least number that its place lacks: along the open road.
    (WITH_RINGS, ["f"], (0, "f")),
    (WITH_RINGS, ["g"], (0, "g")),
    (WITH_RINGS, ["i", "e"], (1, "e")),
    (WITH_RINGS, ["j", "e", "j", "i"], (1, "e")),
    (WITH_RINGS, ["j", "f", "o", "j"], (1, "f")),
    (THREE_ROUND, ["s", "i"], (0, "u")),
    (THREE_ROUND, ["t"], (0, "u")),
    (THREE_ROUND, ["u"], (0, "t")),
    # One, and the sum is greater: another token goes to a numbered place.
    (WITH_RINGS, ["g", "i"], (1, "o")),
    (WITH_RINGS, ["i", "g"], (0, "o")),
    (WITH_RINGS, ["g", "i", "j"], (2, "i")),
    (WITH_RINGS, ["j", "g", "i", "i", "i"], (0, "i")),
    (WITH_RINGS, ["g", "i", "i", "i"], (1, "o")),
    (WITH_RINGS, ["f", "j"], (1, "o")),
    (WITH_RINGS, ["j", "i", "e"], (0, "o")),
    (THREE_ROUND, ["j", "u", "j", "j"], (0, "o")),
    # The endless place's own token could make the sum, too, but it stays.
    (WITH_RINGS, ["e", "j", "i"], (1, "o")),
    # A road to a greater number comes first.
    (TWO_ZEROS + "\ng: g", ["p", "x", "g"], (0, "r")),
    # A road to an endless place comes first, but is not taken.
    ("b: b d c\nc:\nd: c\na: b c\ng: g", ["a", "g"], (0, "c")),
]

# Each one: a text of a ground, a heap of any outcome, and its safe moves.
SAFE_BY_HAND = [
    (WITH_RINGS, [], []),
    (WITH_RINGS, ["o"] * 8, []),
    (WITH_RINGS, ["i", "i"], []),
    (WITH_RINGS, ["j", "o", "i"], [(0, "i")]),
    (WITH_RINGS, ["e"], [(0, "o")]),
    (WITH_RINGS, ["i", "f"], [(0, "o"), (1, "i")]),
    (WITH_RINGS, ["j", "f"], [(0, "o"), (1, "f")]),
    (WITH_RINGS, ["g", "i"], [(0, "g"), (1, "o")]),
    (WITH_RINGS, ["e", "f"], [(0, "o"), (0, "j"), (0, "e"), (1, "i"), (1, "f")]),
    (THREE_ROUND, ["s"], [(0, "o"), (0, "t"), (0, "u")]),
    (THREE_ROUND, ["u"], [(0, "t")]),
]


def drawer_again(ground, heap):
    """Promise 82 once more, by the labels: which of its cases it is, and the move."""
    labels = labels_of(ground)
    tokens = range(len(heap))
    endless = [token for token in tokens if labels[heap[token]][0] == "endless"]
    token = endless[0]
    if len(endless) > 1:
        ends = [end for end in ground.roads_from(heap[token]) if labels[end][0] == "endless"]
        return ("two", (token, ends[0]))
    total = 0
    for other in tokens:
        if other != token:
            total ^= labels[heap[other]][1]
    least, place = open_road(ground, heap[token])
    if total == least:
        return ("alike", (token, place))
    for other in tokens:
        for end in ground.roads_from(heap[other]):
            if other != token and labels[end][0] == "number":
                if total ^ labels[heap[other]][1] ^ labels[end][1] == least:
                    return ("greater", (other, end))
    raise AssertionError("there is no such move")


class SafeMoves(unittest.TestCase):
    def test_by_hand(self):
        for text, heap, moves in SAFE_BY_HAND:
            self.assertEqual(safe_moves(read_ground(text), heap), moves, (text, heap))

    def test_the_moves_that_do_not_leave_a_won_heap(self):
        for ground in grounds_for_plays():
            for heap in heaps_on(ground):
                told = safe_moves(ground, heap)
                moves = moves_of(ground, heap)
                self.assertEqual(told, [move for move in moves if outcome(ground, after(ground, heap, move)) != "won"])
                self.assertEqual(len(told) == 0, outcome(ground, heap) == "lost")

    def test_kinds_of_what_is_told(self):
        ground = read_ground(WITH_RINGS)
        self.assertIs(type(safe_moves(ground, ["g"])), list)
        for move in safe_moves(ground, ["g"]) + [drawer(ground, ["g"]), player(ground)(["g"])]:
            self.assertEqual([type(move)] + [type(part) for part in move], [tuple, int, str])


class DrawersMoves(unittest.TestCase):
    def test_by_hand(self):
        for text, heap, move in DRAWN_BY_HAND:
            self.assertEqual(drawer(read_ground(text), heap), move, (text, heap))

    def test_word_by_word(self):
        seen = {}
        for ground in grounds_for_plays():
            for heap in heaps_of("drawn", ground):
                kind, move = drawer_again(ground, heap)
                self.assertEqual(drawer(ground, heap), move, (ground.rows(), heap))
                seen[kind] = seen.get(kind, 0) + 1
        self.assertEqual(sorted(seen), ["alike", "greater", "two"])
        self.assertGreater(min(seen.values()), 50)

    def test_what_is_left_is_drawn(self):
        for ground in grounds_for_plays():
            for heap in heaps_of("drawn", ground):
                self.assertEqual(outcome(ground, after(ground, heap, drawer(ground, heap))), "drawn")


class Players(unittest.TestCase):
    def test_by_hand(self):
        for text, heap, move in DRAWN_BY_HAND:
            self.assertEqual(player(read_ground(text))(heap), move)
        tell = player(read_ground(TWO_ZEROS))
        self.assertEqual(tell(["x"]), (0, "q"))
        self.assertEqual(tell(["p", "x"]), (1, "q"))
        self.assertEqual(tell(["p"]), (0, "r"))
        self.assertEqual(tell(["q", "x", "r"]), (1, "p"))

    def test_won_drawn_and_lost_heaps(self):
        for ground in grounds_for_plays():
            tell = player(ground)
            for heap in heaps_of("won", ground):
                self.assertEqual(tell(heap), winner(ground, heap))
            for heap in heaps_of("drawn", ground):
                self.assertEqual(tell(heap), drawer(ground, heap))
            for heap in heaps_of("lost", ground):
                if not is_over(ground, heap):
                    self.assertEqual(tell(heap), moves_of(ground, heap)[0])

    def play_long(self, ground, heap, first):
        """Plays one hand by the player against moves by each rule, and looks at each heap that it leaves."""
        words = []
        for rule in RULES:
            other = Player(ground, rule).tell
            hands = (player(ground), other) if first else (other, player(ground))
            made, word = played(ground, heap, hands[0], hands[1], 60)
            self.assertNotEqual(word, "second" if first else "first", (ground.rows(), heap))
            for left in walk(ground, heap, made)[1 if first else 2::2]:
                self.assertIn(outcome(ground, left), ("drawn", "lost"))
            words.append(word)
        return words

    def test_long_plays_from_drawn_heaps(self):
        for first in (True, False):
            words = []
            for ground in grounds_for_plays():
                for heap in heaps_of("drawn", ground)[::15]:
                    words.extend(self.play_long(ground, heap, first))
            self.assertEqual(sorted(set(words)), ["first", "open"] if first else ["open", "second"])

    def test_a_play_of_a_thousand_moves(self):
        ground = Ground(rows_with(14, 40))
        for heap in (["a"], ["a", "b", "c"], ["n"] * 8):
            for rule in RULES:
                for hands in ((player(ground), Player(ground, rule).tell), (Player(ground, rule).tell, player(ground))):
                    made, word = played(ground, heap, hands[0], hands[1], 1000)
                    self.assertEqual((len(made), word), (1000, "open"))

    def test_against_all_moves(self):
        grounds = [read_ground(text) for text in (WITH_RINGS, THREE_ROUND)]
        for ground in grounds + list(itertools.islice(all_grounds(3), 0, None, 5)):
            tell = player(ground)
            drawn = [heap for heap in all_heaps(ground, 2) if outcome(ground, heap) == "drawn"]
            met = {tuple(heap): "to move" for heap in drawn}
            waiting = list(met)
            for heap in waiting:
                self.assertTrue(moves_of(ground, list(heap)), "the player's hand has lost")
                left = after(ground, list(heap), tell(list(heap)))
                self.assertIn(outcome(ground, left), ("drawn", "lost"))
                for move in moves_of(ground, left):
                    now = tuple(after(ground, left, move))
                    if now not in met:
                        met[now] = "to move"
                        waiting.append(now)


class RefusedHeaps(RefusalCase):
    def test_what_is_no_heap(self):
        for ground in (read_ground("a: a"), Ground(ladder(3)), Ground(rows_with(14, 40)), read_ground("a:")):
            tell = player(ground)
            for kind, field, heap in NO_HEAPS:
                self.assert_refused(kind, field, safe_moves, ground, heap)
                self.assert_refused(kind, field, drawer, ground, heap)
                self.assert_refused(kind, field, tell, heap)

    def test_heaps_that_are_not_drawn(self):
        for ground in grounds_for_plays():
            for word in ("won", "lost"):
                for heap in heaps_of(word, ground)[::4]:
                    self.assert_refused(NotSo, word, drawer, ground, heap)

    def test_the_player_of_heaps_without_moves(self):
        for text, heaps in (
            ("a:", [[], ["a"], ["a"] * 8]),
            ("a: a\nb:", [[], ["b"], ["b", "b"]]),
            (WITH_RINGS, [[], ["o"], ["o"] * 8]),
        ):
            for heap in heaps:
                self.assert_refused(NotSo, "lost", player(read_ground(text)), heap)


class OwnMoves(unittest.TestCase):
    def all_told(self, ground, tell):
        told = []
        for heap in heaps_on(ground):
            told.append(safe_moves(ground, heap))
            told.append(drawer(ground, heap) if outcome(ground, heap) == "drawn" else None)
            told.append(None if is_over(ground, heap) else tell(heap))
        return told

    def test_what_was_told_is_changed(self):
        for text, heap, moves in SAFE_BY_HAND:
            ground = read_ground(text)
            for change in (list.clear, list.reverse, lambda one: one.append(None)):
                change(safe_moves(ground, heap))
                self.assertEqual(safe_moves(ground, heap), moves)

    def test_what_was_handed_in_is_changed(self):
        rows = [("a", ("b",)), ("b", ("a", "b", "c")), ("c", ())]
        ground = Ground(rows)
        tell = player(ground)
        heap = ["b", "b", "c"]
        told = safe_moves(ground, heap)
        self.assertEqual((drawer(ground, heap), tell(heap), heap), ((0, "b"), (0, "b"), ["b", "b", "c"]))
        rows.clear()
        heap.clear()
        self.assertEqual(told, [(0, "b"), (1, "b")])
        self.assertEqual((drawer(ground, ["b", "b"]), tell(["b", "b"])), ((0, "b"), (0, "b")))
        heap.append("b")
        self.assertEqual((tell(heap), heap), ((0, "c"), ["b"]))
        self.assertEqual(tell(["a"]), (0, "b"))

    def test_a_ground_of_other_roads_is_asked_between(self):
        for ground in itertools.chain(mixed_grounds(25), all_grounds(2)):
            other = turned_round(ground)
            tell, tell_other = player(ground), player(other)
            told = (self.all_told(ground, tell), self.all_told(other, tell_other))
            self.assertEqual((self.all_told(ground, tell), self.all_told(other, tell_other)), told)
            self.assertEqual((self.all_told(ground, player(ground)), self.all_told(other, player(other))), told)

    def test_a_player_that_was_told_is_asked_again(self):
        ground = Ground(ladder(4))
        tell = player(ground)
        self.assertEqual(tell(["a"]), (0, "b"))
        other = player(turned_round(ground))
        self.assertEqual(other(["d"]), (0, "c"))
        labels_of(ground).clear()
        labels_of(turned_round(ground)).clear()
        self.assertEqual((tell(["a"]), other(["d"])), ((0, "b"), (0, "c")))

    def test_a_ground_made_alike_tells_the_same(self):
        for ground in mixed_grounds(25):
            alike = Ground([(name, tuple(reversed(ends))) for name, ends in ground.rows()])
            self.assertEqual(self.all_told(alike, player(alike)), self.all_told(ground, player(ground)))


if __name__ == "__main__":
    unittest.main()
