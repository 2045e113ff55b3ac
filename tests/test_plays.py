import unittest

from helper import (
    NO_HEAPS, NO_NAMES, RULES, Player, RefusalCase, by_turns, first_move, ladder, last_move, mixed_grounds, ring,
    turned_round,
)
from ringheaps.errors import NoMove
from ringheaps.ground import Ground
from ringheaps.groundtext import read_ground
from ringheaps.heaps import after, is_over, moves_of
from ringheaps.plays import played, walk

NO_MOVES = [
    None, True, False, 0, 1, -1, 10 ** 99, "", "b", "0 b", [], {}, (), [0, "b"], [(0, "b")], ((0, "b"),), {0: "b"},
    (0,), ("b",), (0, "b", 0), (False, "b"), (True, "b"), ("0", "b"), (None, "b"), ([], "b"), (-1, "b"), (-2, "b"),
    (2, "b"), (8, "b"), (10 ** 99, "b"), (0, "a"), (0, "zz"), (0, None), (0, ["b"]), (0, {}), (0, 1), ("b", 0),
]


def never(heap):
    raise AssertionError("a player is asked that is not to be asked")


class Plays(unittest.TestCase):
    def test_a_ladder_takes_as_many_moves_as_it_has_roads(self):
        for many in range(1, 15):
            ground = Ground(ladder(many))
            names = ground.names()
            moves = [(0, name) for name in names[1:]]
            for most in list(range(0, 17)) + [1000]:
                one, other = Player(ground, first_move), Player(ground, first_move)
                made, word = played(ground, ["a"], one.tell, other.tell, most)
                self.assertEqual(made, moves[:most])
                ends = "second" if len(moves) % 2 == 0 else "first"
                self.assertEqual(word, ends if most >= len(moves) else "open")
                self.assertEqual(one.asked, [[name] for name in names[:len(made)][0::2]])
                self.assertEqual(other.asked, [[name] for name in names[:len(made)][1::2]])

    def test_heaps_that_are_over_from_the_start(self):
        ground = read_ground("a: a\nb:")
        for heap in ([], ["b"], ["b"] * 8):
            for most in (0, 1, 1000):
                self.assertEqual(played(ground, heap, never, never, most), ([], "second"))

    def test_no_player_is_asked_behind_most_moves(self):
        ground = read_ground("a: b\nb: c\nc:")
        self.assertEqual(played(ground, ["a"], never, never, 0), ([], "open"))
        self.assertEqual(played(ground, ["a"], lambda heap: (0, "b"), never, 1), ([(0, "b")], "open"))
        told = played(ground, ["a"], lambda heap: (0, "b"), lambda heap: (0, "c"), 2)
        self.assertEqual(told, ([(0, "b"), (0, "c")], "second"))

    def test_a_play_that_goes_on(self):
        for many in (1, 2, 3, 14):
            ground = Ground(ring(many))
            for most in (0, 1, 2, 3, 999, 1000):
                one, other = Player(ground, last_move), Player(ground, first_move)
                made, word = played(ground, ["a", "a"], one.tell, other.tell, most)
                self.assertEqual(word, "open")
                self.assertEqual(len(made), most)
                self.assertEqual([token for token, place in made], [1, 0] * (most // 2) + [1] * (most % 2))
                self.assertEqual(len(one.asked), (most + 1) // 2)
                self.assertEqual(len(other.asked), most // 2)

    def test_plays_on_mixed_grounds(self):
        for ground in mixed_grounds(30):
            names = ground.names()
            for heap in ([names[0]], names[:3], names[-2:] * 4, []):
                for one_rule in RULES:
                    for other_rule in RULES:
                        self.follow(ground, heap, one_rule, other_rule)

    def follow(self, ground, heap, one_rule, other_rule):
        """Makes the play move by move, and compares."""
        for most in (0, 1, 2, 5, 40):
            one, other = Player(ground, one_rule), Player(ground, other_rule)
            made, word = played(ground, list(heap), one.tell, other.tell, most)
            now = list(heap)
            asked = []
            while len(asked) < most and moves_of(ground, now):
                rule = (one_rule, other_rule)[len(asked) % 2]
                move = rule(moves_of(ground, now), len(asked) // 2)
                self.assertEqual(made[len(asked)], move)
                asked.append(now)
                now = after(ground, now, move)
            self.assertEqual(len(made), len(asked))
            self.assertEqual(one.asked, asked[0::2])
            self.assertEqual(other.asked, asked[1::2])
            winner = ("second", "first")[len(made) % 2]
            self.assertEqual(word, winner if is_over(ground, now) else "open")

    def test_players_that_change_the_heap_they_are_told(self):
        ground = Ground(ladder(6))
        for change in (list.clear, list.reverse, lambda told: told.append("zz"), lambda told: told.insert(0, None)):
            kept = []

            def spoil(heap):
                move = moves_of(ground, heap)[0]
                for ahead in kept:
                    change(ahead)
                change(heap)
                kept.append(heap)
                return move

            handed = ["c", "a", "f"]
            told = played(ground, handed, spoil, spoil, 1000)
            moves = [(0, "d"), (0, "e"), (0, "f"), (1, "b"), (1, "c"), (1, "d"), (1, "e"), (1, "f")]
            self.assertEqual(told, (moves, "second"))
            self.assertEqual(handed, ["c", "a", "f"])

    def test_each_asking_is_told_a_list_of_its_own(self):
        ground = Ground([("a", ("a",))])
        kept = []

        def keep(heap):
            kept.append(heap)
            return (0, "a")

        handed = ["a"]
        played(ground, handed, keep, keep, 6)
        self.assertEqual(len({id(heap) for heap in kept + [handed]}), 7)

    def test_players_that_change_the_heap_that_was_handed_in(self):
        ground = Ground(ladder(5))
        handed = ["a"]

        def spoil(heap):
            handed.clear()
            return moves_of(ground, heap)[0]

        self.assertEqual(played(ground, handed, spoil, spoil, 10), ([(0, "b"), (0, "c"), (0, "d"), (0, "e")], "second"))

    def test_kinds_of_what_is_told(self):
        told = played(Ground(ladder(3)), ["a"], lambda heap: (0, "b"), never, 1)
        self.assertIs(type(told), tuple)
        self.assertEqual(len(told), 2)
        self.assertIs(type(told[0]), list)
        self.assertIs(type(told[0][0]), tuple)
        self.assertIs(type(told[1]), str)


class RefusedPlays(RefusalCase):
    def test_what_is_no_heap_and_no_player_asked(self):
        ground = read_ground("a: b\nb: a")
        for kind, field, heap in NO_HEAPS:
            for most in (0, 1, 1000):
                self.assert_refused(kind, field, played, ground, heap, never, never, most)

    def test_a_player_that_tells_what_is_no_move(self):
        ground = read_ground("a: b\nb: a")
        for thing in NO_MOVES:
            for turn in range(5):
                made = []

                def tell(heap):
                    made.append(moves_of(ground, heap)[0])
                    return made[-1] if len(made) <= turn else thing

                heap = ["a"] if turn % 2 == 0 else ["b"]
                told = played(ground, heap, tell, tell, turn)
                self.assertEqual(told, (made, "open"))
                made.clear()
                self.assert_refused(NoMove, thing, played, ground, heap, tell, tell, 1000)
                self.assertEqual(len(made), turn + 1)

    def test_a_move_of_the_heap_ahead_is_no_move(self):
        ground = Ground(ladder(4))
        self.assert_refused(
            NoMove, (0, "b"), played, ground, ["a"], lambda heap: (0, "b"), lambda heap: (0, "b"), 9)


class Walks(RefusalCase):
    def test_walks_by_hand(self):
        ground = read_ground("z: m z a\na: m z\nm:")
        self.assertEqual(walk(ground, [], []), [[]])
        self.assertEqual(walk(ground, ["a", "m"], []), [["a", "m"]])
        self.assertEqual(walk(ground, ["a", "m"], [(0, "m")]), [["a", "m"], ["m", "m"]])
        self.assertEqual(
            walk(ground, ["a", "z"], [(1, "z"), (0, "z"), (1, "a"), (0, "z"), (0, "m")]),
            [["a", "z"], ["a", "z"], ["z", "z"], ["z", "a"], ["z", "a"], ["m", "a"]],
        )

    def test_the_moves_of_plays_are_walked(self):
        for ground in mixed_grounds(30):
            heap = ground.names()[:8]
            one, other = Player(ground, by_turns), Player(ground, last_move)
            made, word = played(ground, heap, one.tell, other.tell, 100)
            heaps = walk(ground, heap, made)
            self.assertEqual(len(heaps), len(made) + 1)
            self.assertEqual(heaps[0], heap)
            self.assertEqual(heaps[:-1][0::2], one.asked)
            self.assertEqual(heaps[:-1][1::2], other.asked)
            for ahead, move, left in zip(heaps, made, heaps[1:]):
                self.assertEqual(after(ground, ahead, move), left)

    def test_what_is_no_heap(self):
        ground = read_ground("a: b\nb: a")
        for kind, field, heap in NO_HEAPS:
            for moves in ([], [(0, "b")], [None], None, "a", (), {}):
                self.assert_refused(kind, field, walk, ground, heap, moves)

    def test_what_is_no_list(self):
        ground = read_ground("a: b\nb: a")
        for thing in NO_NAMES + [(0, "b"), ((0, "b"),), {0: "b"}, {(0, "b"): True}, "b"]:
            if not isinstance(thing, list):
                self.assert_refused(NoMove, thing, walk, ground, ["a"], thing)

    def test_things_that_are_no_moves(self):
        ground = read_ground("a: b\nb: a")
        for thing in NO_MOVES:
            self.assert_refused(NoMove, thing, walk, ground, ["a"], [thing])
            self.assert_refused(NoMove, thing, walk, ground, ["a"], [(0, "b"), (0, "a"), thing, (0, "b")])
            self.assert_refused(NoMove, thing, walk, ground, ["b"], [(0, "a"), thing])
            self.assert_refused(NoMove, "first", walk, ground, ["b"], [(0, "a"), "first", thing])

    def test_a_move_of_the_first_heap_that_is_none_by_then(self):
        ground = Ground(ladder(4))
        self.assertEqual(walk(ground, ["a", "a"], [(0, "b"), (1, "b")]), [["a", "a"], ["b", "a"], ["b", "b"]])
        self.assert_refused(NoMove, (0, "b"), walk, ground, ["a", "a"], [(0, "b"), (0, "b")])
        self.assert_refused(NoMove, (1, "b"), walk, ground, ["a", "a"], [(1, "b"), (0, "b"), (1, "b"), (0, "b")])


class OwnPlays(RefusalCase):
    def test_what_was_told_is_changed(self):
        ground = Ground(ladder(4))
        moves = [(0, "b"), (0, "c"), (0, "d")]
        heaps = [["a"], ["b"], ["c"], ["d"]]
        for change in (list.clear, list.reverse, lambda told: told.append("zz")):
            told = played(ground, ["a"], lambda heap: moves_of(ground, heap)[0], lambda heap: (0, "c"), 9)
            self.assertEqual(told, (moves, "first"))
            change(told[0])
            handed_heap, handed_moves = ["a"], list(moves)
            told = walk(ground, handed_heap, handed_moves)
            self.assertEqual(told, heaps)
            change(told[0])
            self.assertEqual(told[1:], heaps[1:])
            change(told[1])
            self.assertEqual(told[2:], heaps[2:])
            change(told)
            self.assertEqual((handed_heap, handed_moves), (["a"], moves))
            self.assertEqual(walk(ground, handed_heap, handed_moves), heaps)

    def test_what_was_handed_in_is_changed(self):
        ground = Ground([("a", ("a",))])
        heap, moves = ["a"], [(0, "a"), (0, "a")]
        told = walk(ground, heap, moves)
        heap.append("zz")
        moves.clear()
        self.assertEqual(told, [["a"], ["a"], ["a"]])
        self.assertEqual(len({id(one) for one in told + [heap]}), 4)
        self.assertEqual(walk(ground, ["a"], [(0, "a")]), [["a"], ["a"]])

    def test_a_ground_of_other_roads_is_asked_between(self):
        ground = Ground(ladder(3))
        other = turned_round(ground)
        for again in range(2):
            self.assertEqual(walk(ground, ["a"], [(0, "b"), (0, "c")]), [["a"], ["b"], ["c"]])
            self.assertEqual(walk(other, ["c"], [(0, "b"), (0, "a")]), [["c"], ["b"], ["a"]])
            self.assert_refused(NoMove, (0, "b"), walk, other, ["a"], [(0, "b")])
            self.assertEqual(played(other, ["a"], never, never, 5), ([], "second"))
            told = played(ground, ["a"], lambda heap: (0, "b"), lambda heap: (0, "c"), 5)
            self.assertEqual(told, ([(0, "b"), (0, "c")], "second"))


if __name__ == "__main__":
    unittest.main()
