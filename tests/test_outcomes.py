import itertools
import unittest

from helper import (
    LETTERS, NO_HEAPS, ROWS_OF_GROUNDS, WITH_RINGS, AgainCase, RefusalCase, all_grounds, all_heaps, heaps_on, ladder,
    mixed_grounds, outcomes_going_back, ring, rows_with, stairs,
)
from ringheaps.errors import NoPlace, TooMany
from ringheaps.ground import Ground
from ringheaps.groundtext import read_ground
from ringheaps.heaps import after, moves_of
from ringheaps.labels import labels_of
from ringheaps.outcomes import heap_worth, outcome, outcomes_after
from ringheaps.worths import Endless, Numbered

# Each one: a heap of the ground with rings, its worth and its outcome.
BY_HAND = [
    ([], ("number", 0), "lost"),
    (["o"], ("number", 0), "lost"),
    (["o"] * 8, ("number", 0), "lost"),
    (["i"], ("number", 1), "won"),
    (["j"], ("number", 2), "won"),
    (["i", "i"], ("number", 0), "lost"),
    (["i", "j"], ("number", 3), "won"),
    (["j", "i", "o", "j", "i"], ("number", 0), "lost"),
    (["j", "i", "o", "j", "i", "i", "j", "j"], ("number", 1), "won"),
    (["e"], ("endless", 5), "won"),
    (["f"], ("endless", 2), "drawn"),
    (["g"], ("endless", 0), "drawn"),
    (["e", "i"], ("endless", 10), "drawn"),
    (["i", "e"], ("endless", 10), "drawn"),
    (["j", "e", "o"], ("endless", 5), "won"),
    (["j", "i", "e"], ("endless", 10), "drawn"),
    (["f", "i"], ("endless", 1), "won"),
    (["f", "j"], ("endless", 8), "drawn"),
    (["f", "i", "i", "j", "j", "i", "o", "o"], ("endless", 1), "won"),
    (["g", "i"], ("endless", 0), "drawn"),
    (["e", "e"], ("endless", 0), "drawn"),
    (["e", "o", "f"], ("endless", 0), "drawn"),
    (["f", "i", "f", "i"], ("endless", 0), "drawn"),
    (["e"] * 8, ("endless", 0), "drawn"),
]

# Each one: a heap of the ground with rings, and its moves with the outcomes behind them.
MOVES_BY_HAND = [
    ([], []),
    (["o"], []),
    (["o"] * 8, []),
    (["i"], [((0, "o"), "lost")]),
    (["j"], [((0, "o"), "lost"), ((0, "i"), "won")]),
    (["i", "i"], [((0, "o"), "won"), ((1, "o"), "won")]),
    (["i", "o", "j"], [((0, "o"), "won"), ((2, "o"), "won"), ((2, "i"), "lost")]),
    (["e"], [((0, "o"), "lost"), ((0, "j"), "won"), ((0, "e"), "won")]),
    (["g"], [((0, "g"), "drawn")]),
    (["f", "j"], [((0, "i"), "won"), ((0, "f"), "drawn"), ((1, "o"), "drawn"), ((1, "i"), "won")]),
    (["g", "f"], [((0, "g"), "drawn"), ((1, "i"), "drawn"), ((1, "f"), "drawn")]),
]


def many_grounds():
    yield from map(Ground, ROWS_OF_GROUNDS)
    yield from (read_ground(text) for text in ("a: b\nb: a c\nc:", "a: b\nb: c\nc: a d\nd:", WITH_RINGS))
    yield from all_grounds(2)
    yield from mixed_grounds(120)
    yield from mixed_grounds(80, 4)


def told_again(labels, heap):
    """Promises 45, 61 and 62 once more, by the labels: the tuple of the worth and the outcome of a heap."""
    total = 0
    sets = []
    for place in heap:
        if labels[place][0] == "number":
            total ^= labels[place][1]
        else:
            sets.append([number for number in range(16) if labels[place][1] >> number & 1])
    if not sets:
        return (("number", total), "won" if total else "lost")
    if len(sets) > 1:
        return (("endless", 0), "drawn")
    bits = sum(1 << (number ^ total) for number in sets[0])
    return (("endless", bits), "won" if total in sets[0] else "drawn")


class HeapsComeTo(unittest.TestCase):
    def test_worths_and_outcomes_by_hand(self):
        ground = read_ground(WITH_RINGS)
        for heap, told, word in BY_HAND:
            worth = heap_worth(ground, heap)
            self.assertEqual(worth.told(), told, heap)
            self.assertIs(type(worth), Numbered if told[0] == "number" else Endless)
            self.assertEqual(outcome(ground, heap), word, heap)

    def test_in_any_order_of_the_tokens(self):
        ground = read_ground(WITH_RINGS)
        for heap, told, word in BY_HAND:
            for other in (heap[::-1], sorted(heap), heap[3:] + heap[:3]):
                self.assertEqual(heap_worth(ground, other).told(), told)
                self.assertEqual(outcome(ground, other), word)

    def test_no_roads(self):
        for many in (1, 2, 14):
            ground = Ground(rows_with(many, 0))
            for heap in heaps_on(ground):
                self.assertEqual(heap_worth(ground, heap).told(), ("number", 0))
                self.assertEqual(outcome(ground, heap), "lost")

    def test_ladders(self):
        for many in range(1, 15):
            ground = Ground(ladder(many))
            for heap in heaps_on(ground):
                odd = sum(many - 1 - LETTERS.index(place) for place in heap) % 2
                self.assertEqual(heap_worth(ground, heap).told(), ("number", odd))
                self.assertEqual(outcome(ground, heap), ("lost", "won")[odd])

    def test_rings(self):
        for many in range(1, 15):
            ground = Ground(ring(many))
            for heap in heaps_on(ground):
                self.assertEqual(heap_worth(ground, heap).told(), ("endless", 0) if heap else ("number", 0))
                self.assertEqual(outcome(ground, heap), "drawn" if heap else "lost")

    def test_sums_of_four_bits(self):
        ground = Ground(stairs(9) + [("z", ("a", "c", "i", "z"))])
        self.assertEqual(heap_worth(ground, list("ihb")).told(), ("number", 14))
        self.assertEqual(heap_worth(ground, list("ihiih")).told(), ("number", 8))
        self.assertEqual(heap_worth(ground, list("igb")).told(), ("number", 15))
        self.assertEqual(heap_worth(ground, list("igbz")).told(), ("endless", 2 ** 15 + 2 ** 13 + 2 ** 7))
        self.assertEqual(outcome(ground, list("igbz")), "drawn")
        self.assertEqual(outcome(ground, ["i", "z"]), "won")

    def test_worths_and_outcomes_by_the_labels(self):
        seen = {}
        for ground in many_grounds():
            labels = labels_of(ground)
            for heap in heaps_on(ground):
                worth, word = told_again(labels, heap)
                self.assertEqual(heap_worth(ground, heap).told(), worth, (ground.rows(), heap))
                self.assertEqual(outcome(ground, heap), word)
                endless = sum(labels[place][0] == "endless" for place in heap)
                kind = (min(len(heap), 2), min(endless, 3), word)
                seen[kind] = seen.get(kind, 0) + 1
        for kind in [(2, 0, "lost"), (2, 0, "won"), (2, 1, "won"), (2, 1, "drawn"), (2, 2, "drawn"), (2, 3, "drawn")]:
            self.assertGreater(seen[kind], 50)
        for kind in [(0, 0, "lost"), (1, 0, "lost"), (1, 0, "won"), (1, 1, "won"), (1, 1, "drawn")]:
            self.assertGreater(seen[kind], 20)
        self.assertEqual(len(seen), 11)

    def follow(self, grounds, tokens):
        for ground in grounds:
            for heap, word in outcomes_going_back(ground, tokens).items():
                self.assertEqual(outcome(ground, list(heap)), word, (ground.rows(), heap))

    def test_one_token_by_going_back(self):
        self.follow(itertools.chain(*[all_grounds(places) for places in (1, 2, 3)]), 1)
        self.follow(many_grounds(), 1)

    def test_two_tokens_by_going_back(self):
        self.follow(itertools.chain(*[all_grounds(places) for places in (1, 2, 3)]), 2)
        self.follow(itertools.islice(many_grounds(), 0, None, 4), 2)

    def test_three_tokens_by_going_back(self):
        self.follow(itertools.chain(all_grounds(1), all_grounds(2), itertools.islice(all_grounds(3), 0, None, 3)), 3)
        self.follow(itertools.islice(mixed_grounds(60), 0, None, 11), 3)
        self.follow([ground for ground in mixed_grounds(40, 4) if len(ground.names()) < 10][::4], 3)

    def test_many_tokens_by_going_back(self):
        self.follow(itertools.islice(all_grounds(2), 1, None, 2), 8)
        self.follow([read_ground("a: b\nb: a c\nc:"), read_ground("a: a b\nb: c\nc:")], 6)


class OutcomesBehindMoves(unittest.TestCase):
    def test_by_hand(self):
        ground = read_ground(WITH_RINGS)
        for heap, told in MOVES_BY_HAND:
            self.assertEqual(outcomes_after(ground, heap), told)

    def test_moves_in_their_order_with_the_outcomes(self):
        for ground in many_grounds():
            for heap in heaps_on(ground):
                told = outcomes_after(ground, heap)
                self.assertEqual([move for move, word in told], moves_of(ground, heap))
                for move, word in told[::5]:
                    self.assertEqual(word, outcome(ground, after(ground, heap, move)))

    def test_lost_won_and_drawn_just_so(self):
        seen = {"lost": 0, "won": 0, "drawn": 0}
        for ground in many_grounds():
            for heap in itertools.chain(heaps_on(ground), all_heaps(ground, 2)[::3]):
                words = [word for move, word in outcomes_after(ground, heap)]
                if all(word == "won" for word in words):
                    expected = "lost"
                elif "lost" in words:
                    expected = "won"
                else:
                    expected = "drawn"
                    self.assertIn("drawn", words)
                self.assertEqual(outcome(ground, heap), expected)
                seen[expected] += 1
        self.assertGreater(min(seen.values()), 1000)

    def test_kinds_of_what_is_told(self):
        ground = read_ground(WITH_RINGS)
        told = outcomes_after(ground, ["j", "e"])
        self.assertIs(type(told), list)
        for pair in told:
            self.assertEqual([type(pair), type(pair[0]), type(pair[1])], [tuple, tuple, str])
            self.assertEqual([type(part) for part in pair[0]], [int, str])
        self.assertIs(type(outcome(ground, [])), str)


class RefusedHeaps(RefusalCase):
    def test_what_is_no_heap(self):
        for ground in (read_ground("a: a"), Ground(ladder(3)), Ground(rows_with(14, 40))):
            for kind, field, heap in NO_HEAPS:
                for call in (heap_worth, outcome, outcomes_after):
                    self.assert_refused(kind, field, call, ground, heap)

    def test_places_of_another_ground(self):
        ground = Ground([("b", ("b",))])
        for call in (heap_worth, outcome, outcomes_after):
            self.assert_refused(TooMany, 9, call, ground, ["b"] * 9)
            self.assert_refused(NoPlace, "a", call, ground, ["b", "a"])


class OwnOutcomes(AgainCase):
    def all_told(self, ground):
        told = []
        for heap in heaps_on(ground):
            told.append((heap_worth(ground, heap).told(), outcome(ground, heap), outcomes_after(ground, heap)))
        return told

    def test_what_was_told_is_changed(self):
        ground = read_ground(WITH_RINGS)
        for heap, told in MOVES_BY_HAND:
            for change in (list.clear, list.reverse, lambda one: one.append(None), lambda one: one.insert(0, ())):
                change(outcomes_after(ground, heap))
                self.assertEqual(outcomes_after(ground, heap), told)

    def test_what_was_handed_in_is_changed(self):
        rows = [("a", ()), ("b", ("a",))]
        ground = Ground(rows)
        heap = ["b", "a"]
        worth = heap_worth(ground, heap)
        told = outcomes_after(ground, heap)
        self.assertEqual(outcome(ground, heap), "won")
        self.assertEqual(heap, ["b", "a"])
        heap.append("b")
        rows.clear()
        self.assertEqual(worth.told(), ("number", 1))
        self.assertEqual(told, [((0, "a"), "lost")])
        self.assertEqual(outcome(ground, heap), "lost")
        self.assertEqual(outcomes_after(ground, heap), [((0, "a"), "won"), ((2, "a"), "won")])
        self.assertEqual(outcome(ground, ["b", "a"]), "won")

    def test_all_is_told_again(self):
        self.assert_told_again(self.all_told, itertools.chain(mixed_grounds(30), all_grounds(2)))


if __name__ == "__main__":
    unittest.main()
