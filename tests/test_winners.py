import itertools
import unittest

from helper import (
    LETTERS, NO_HEAPS, RULES, TWO_ZEROS, WITH_RINGS, AgainCase, Player, RefusalCase, all_grounds, all_heaps,
    grounds_for_plays, heaps_of, heaps_on, ladder, mixed_grounds, rows_with,
)
from ringheaps.errors import NotSo
from ringheaps.ground import Ground
from ringheaps.groundtext import read_ground
from ringheaps.heaps import after, is_over, moves_of
from ringheaps.labels import labels_of
from ringheaps.outcomes import outcome
from ringheaps.plays import played
from ringheaps.winners import count_of, most_moves, winner, winning_moves

# Each one: a text of a ground, a won heap, its winning moves, its winner's move and its most moves.
WON_BY_HAND = [
    (TWO_ZEROS, ["x"], [(0, "p"), (0, "q")], (0, "q"), 1),
    (TWO_ZEROS, ["r"], [(0, "q")], (0, "q"), 1),
    (TWO_ZEROS, ["x", "p"], [(0, "p"), (0, "q"), (1, "r")], (0, "q"), 3),
    (TWO_ZEROS, ["p", "x"], [(0, "r"), (1, "p"), (1, "q")], (1, "q"), 3),
    (TWO_ZEROS, ["x", "x", "r"], [(0, "p"), (0, "q"), (1, "p"), (1, "q"), (2, "q")], (0, "q"), 9),
    (TWO_ZEROS, ["r"] * 7, [(token, "q") for token in range(7)], (0, "q"), 25),
    (WITH_RINGS, ["i"], [(0, "o")], (0, "o"), 1),
    (WITH_RINGS, ["j"], [(0, "o")], (0, "o"), 1),
    (WITH_RINGS, ["i", "o", "j"], [(2, "i")], (2, "i"), 5),
    (WITH_RINGS, ["j", "j", "j"], [(0, "o"), (1, "o"), (2, "o")], (0, "o"), 9),
    (WITH_RINGS, ["o", "i", "i", "i"], [(1, "o"), (2, "o"), (3, "o")], (1, "o"), 5),
    (WITH_RINGS, ["e"], [(0, "o")], (0, "o"), 1),
    (WITH_RINGS, ["j", "e", "o"], [(1, "j")], (1, "j"), 9),
    (WITH_RINGS, ["i", "i", "f", "i"], [(2, "i")], (2, "i"), 9),
]

# Each one: a text of a ground, a lost heap and its count.
LOST_BY_HAND = [
    (TWO_ZEROS, [], 0), (TWO_ZEROS, ["q"], 0), (TWO_ZEROS, ["p"], 1), (TWO_ZEROS, ["p", "q", "p"], 2),
    (TWO_ZEROS, ["x", "r"], 4), (TWO_ZEROS, ["x", "p", "x"], 5), (TWO_ZEROS, ["p"] * 8, 8), (TWO_ZEROS, ["r"] * 8, 16),
    (WITH_RINGS, ["o"] * 8, 0), (WITH_RINGS, ["i", "i"], 2), (WITH_RINGS, ["j", "o", "j"], 4),
    (WITH_RINGS, ["i", "j", "i", "j", "i", "i"], 8),
]

DRAWN_BY_HAND = [
    (WITH_RINGS, ["f"]), (WITH_RINGS, ["g"]), (WITH_RINGS, ["e", "i"]), (WITH_RINGS, ["g", "j"]),
    (WITH_RINGS, ["e", "e"]), (WITH_RINGS, ["f", "i", "g"]), (WITH_RINGS, ["g"] * 8), ("a: b\nb: a", ["a"]),
]


class WinningMoves(unittest.TestCase):
    def test_by_hand(self):
        for text, heap, moves, move, most in WON_BY_HAND:
            self.assertEqual(winning_moves(read_ground(text), heap), moves)
        for text, heap in [(text, heap) for text, heap, count in LOST_BY_HAND] + DRAWN_BY_HAND:
            self.assertEqual(winning_moves(read_ground(text), heap), [])

    def test_the_moves_that_leave_a_lost_heap(self):
        for ground in grounds_for_plays():
            for heap in heaps_on(ground):
                told = winning_moves(ground, heap)
                moves = moves_of(ground, heap)
                self.assertEqual(told, [move for move in moves if outcome(ground, after(ground, heap, move)) == "lost"])
                self.assertEqual(len(told) > 0, outcome(ground, heap) == "won")


class Counts(unittest.TestCase):
    def test_by_hand(self):
        for text, heap, count in LOST_BY_HAND:
            self.assertEqual(count_of(read_ground(text), heap), count, (text, heap))

    def test_sums_of_steps(self):
        for ground in grounds_for_plays():
            labels = labels_of(ground)
            for heap in heaps_of("lost", ground):
                count = count_of(ground, heap)
                self.assertEqual(count, sum(labels[place][2] for place in heap))
                self.assertEqual(count == 0, is_over(ground, heap))

    def test_ladders(self):
        for many in range(1, 15):
            ground = Ground(ladder(many))
            for left in range(0, many, 2):
                place = LETTERS[many - 1 - left]
                for tokens in range(9):
                    self.assertEqual(count_of(ground, [place] * tokens), tokens * left // 2)


class WinnersMoves(unittest.TestCase):
    def test_by_hand(self):
        for text, heap, moves, move, most in WON_BY_HAND:
            self.assertEqual(winner(read_ground(text), heap), move, (text, heap))

    def test_the_least_count_and_the_first_of_several(self):
        several = 0
        for ground in grounds_for_plays():
            labels = labels_of(ground)
            for heap in heaps_of("won", ground):
                counted = []
                for move in winning_moves(ground, heap):
                    left = after(ground, heap, move)
                    counted.append((sum(labels[place][2] for place in left), move))
                least = [move for count, move in counted if count == min(counted)[0]]
                several += len(least) > 1 and least[0] != counted[0][1]
                self.assertEqual(winner(ground, heap), least[0], (ground.rows(), heap))
        self.assertGreater(several, 10)

    def test_kinds_of_what_is_told(self):
        ground = read_ground(TWO_ZEROS)
        self.assertIs(type(winning_moves(ground, ["x"])), list)
        for move in winning_moves(ground, ["x"]) + [winner(ground, ["x"])]:
            self.assertEqual([type(move)] + [type(part) for part in move], [tuple, int, str])
        self.assertEqual([type(count_of(ground, ["p"])), type(most_moves(ground, ["p"]))], [int, int])


class WonPlays(unittest.TestCase):
    def test_most_moves_by_hand(self):
        for text, heap, moves, move, most in WON_BY_HAND:
            self.assertEqual(most_moves(read_ground(text), heap), most, (text, heap))
        for text, heap, count in LOST_BY_HAND:
            self.assertEqual(most_moves(read_ground(text), heap), 2 * count, (text, heap))

    def test_most_moves_by_the_counts(self):
        for ground in grounds_for_plays():
            for heap in heaps_of("lost", ground):
                self.assertEqual(most_moves(ground, heap), 2 * count_of(ground, heap))
            for heap in heaps_of("won", ground):
                left = after(ground, heap, winner(ground, heap))
                self.assertEqual(most_moves(ground, heap), 1 + 2 * count_of(ground, left))

    def test_each_answer_leaves_a_lesser_count(self):
        answers = 0
        for ground in grounds_for_plays():
            for heap in heaps_of("lost", ground):
                for move in moves_of(ground, heap):
                    left = after(ground, heap, move)
                    self.assertEqual(outcome(ground, left), "won")
                    lost = after(ground, left, winner(ground, left))
                    self.assertLess(count_of(ground, lost), count_of(ground, heap))
                    answers += 1
        self.assertGreater(answers, 1000)

    def longest(self, ground, heap):
        """The most moves by trying all moves of the hand that has lost, against the winner's moves."""
        if outcome(ground, heap) == "won":
            return 1 + self.longest(ground, after(ground, heap, winner(ground, heap)))
        lefts = [after(ground, heap, move) for move in moves_of(ground, heap)]
        return max([1 + self.longest(ground, left) for left in lefts], default=0)

    def test_against_all_moves(self):
        grounds = [read_ground(text) for text in (TWO_ZEROS, WITH_RINGS, "a: b\nb: a c\nc:", "a: b\nb: c\nc: a d\nd:")]
        for ground in grounds + list(itertools.islice(all_grounds(3), 0, None, 7)):
            for heap in all_heaps(ground, 1) + all_heaps(ground, 2)[::2]:
                if outcome(ground, heap) != "drawn":
                    self.assertLessEqual(self.longest(ground, heap), most_moves(ground, heap))

    def test_plays_from_won_heaps(self):
        lengths = {}
        for ground in grounds_for_plays():
            for heap in heaps_of("won", ground)[::2]:
                for rule in RULES:
                    other = Player(ground, rule)
                    made, word = played(ground, heap, lambda now: winner(ground, now), other.tell, 1000)
                    self.assertEqual(word, "first", (ground.rows(), heap))
                    self.assertLessEqual(len(made), most_moves(ground, heap))
                    lengths[len(heap)] = max(lengths.get(len(heap), 0), len(made))
        self.assertEqual(sorted(lengths), list(range(1, 9)))
        self.assertGreater(max(lengths.values()), 30)

    def test_plays_from_lost_heaps(self):
        lengths = {}
        for ground in grounds_for_plays():
            for heap in heaps_of("lost", ground)[::2]:
                for rule in RULES:
                    other = Player(ground, rule)
                    made, word = played(ground, heap, other.tell, lambda now: winner(ground, now), 1000)
                    self.assertEqual(word, "second", (ground.rows(), heap))
                    self.assertLessEqual(len(made), most_moves(ground, heap))
                    lengths[len(heap)] = max(lengths.get(len(heap), 0), len(made))
        self.assertEqual(sorted(lengths), list(range(0, 9)))
        self.assertGreater(max(lengths.values()), 30)

    def test_against_who_makes_the_play_long(self):
        for ground in itertools.chain(itertools.islice(grounds_for_plays(), 11), mixed_grounds(15)):
            def slowest(heap):
                return max(moves_of(ground, heap), key=lambda move: most_moves(ground, after(ground, heap, move)))

            for heap in heaps_of("won", ground)[::3]:
                made, word = played(ground, heap, lambda now: winner(ground, now), slowest, 1000)
                self.assertEqual(word, "first")
                self.assertLessEqual(len(made), most_moves(ground, heap))


class RefusedHeaps(RefusalCase):
    def test_what_is_no_heap(self):
        for ground in (read_ground("a: a"), Ground(ladder(3)), Ground(rows_with(14, 40)), read_ground("a:")):
            for kind, field, heap in NO_HEAPS:
                for call in (winning_moves, count_of, winner, most_moves):
                    self.assert_refused(kind, field, call, ground, heap)

    def test_heaps_of_other_outcomes_by_hand(self):
        for text, heap, moves, move, most in WON_BY_HAND:
            self.assert_refused(NotSo, "won", count_of, read_ground(text), heap)
        for text, heap, count in LOST_BY_HAND:
            self.assert_refused(NotSo, "lost", winner, read_ground(text), heap)
        for text, heap in DRAWN_BY_HAND:
            for call in (count_of, winner, most_moves):
                self.assert_refused(NotSo, "drawn", call, read_ground(text), heap)

    def test_heaps_of_other_outcomes(self):
        for ground in grounds_for_plays():
            for heap in heaps_of("won", ground)[::4]:
                self.assert_refused(NotSo, "won", count_of, ground, heap)
            for heap in heaps_of("lost", ground)[::4]:
                self.assert_refused(NotSo, "lost", winner, ground, heap)
            for heap in heaps_of("drawn", ground)[::4]:
                for call in (count_of, winner, most_moves):
                    self.assert_refused(NotSo, "drawn", call, ground, heap)


class OwnMoves(AgainCase):
    def all_told(self, ground):
        told = []
        for heap in heaps_on(ground):
            word = outcome(ground, heap)
            told.append(winning_moves(ground, heap))
            told.append(count_of(ground, heap) if word == "lost" else None)
            told.append(winner(ground, heap) if word == "won" else None)
            told.append(most_moves(ground, heap) if word != "drawn" else None)
        return told

    def test_what_was_told_is_changed(self):
        for text, heap, moves, move, most in WON_BY_HAND:
            ground = read_ground(text)
            for change in (list.clear, list.reverse, lambda one: one.append(None)):
                change(winning_moves(ground, heap))
                self.assertEqual(winning_moves(ground, heap), moves)
                self.assertEqual(winner(ground, heap), move)

    def test_what_was_handed_in_is_changed(self):
        ground = read_ground(TWO_ZEROS)
        heap = ["x", "p"]
        told = winning_moves(ground, heap)
        self.assertEqual((winner(ground, heap), most_moves(ground, heap), heap), ((0, "q"), 3, ["x", "p"]))
        heap.reverse()
        self.assertEqual(told, [(0, "p"), (0, "q"), (1, "r")])
        self.assertEqual(winner(ground, heap), (1, "q"))
        heap.append("r")
        self.assertEqual((count_of(ground, heap), most_moves(ground, heap)), (5, 10))
        self.assertEqual(heap, ["p", "x", "r"])
        self.assertEqual(winner(ground, ["x", "p"]), (0, "q"))

    def test_all_is_told_again(self):
        self.assert_told_again(self.all_told, itertools.chain(mixed_grounds(30), all_grounds(2)))


if __name__ == "__main__":
    unittest.main()
