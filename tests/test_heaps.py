import unittest

from helper import NO_NAMES, ROWS_OF_GROUNDS, RefusalCase, heaps_on, mixed_grounds, ring, turned_round
from ringheaps.errors import NoHeap, NoMove, NoPlace, TooMany
from ringheaps.ground import Ground
from ringheaps.groundtext import read_ground
from ringheaps.heaps import after, is_over, moves_of, need_heap

GROUND = "z: m z a\na: m z\nm:"

# Each one: a heap of this ground, its moves, and the heaps behind them.
BY_HAND = [
    ([], [], []),
    (["m"], [], []),
    (["m", "m", "m"], [], []),
    (["a"], [(0, "z"), (0, "m")], [["z"], ["m"]]),
    (["z"], [(0, "z"), (0, "a"), (0, "m")], [["z"], ["a"], ["m"]]),
    (
        ["a", "m", "a"],
        [(0, "z"), (0, "m"), (2, "z"), (2, "m")],
        [["z", "m", "a"], ["m", "m", "a"], ["a", "m", "z"], ["a", "m", "m"]],
    ),
    (
        ["m", "z", "a", "a"],
        [(1, "z"), (1, "a"), (1, "m"), (2, "z"), (2, "m"), (3, "z"), (3, "m")],
        [
            ["m", "z", "a", "a"], ["m", "a", "a", "a"], ["m", "m", "a", "a"],
            ["m", "z", "z", "a"], ["m", "z", "m", "a"], ["m", "z", "a", "z"], ["m", "z", "a", "m"],
        ],
    ),
    (
        ["m"] * 7 + ["a"],
        [(7, "z"), (7, "m")],
        [["m"] * 7 + ["z"], ["m"] * 8],
    ),
]

NO_LISTS = [
    None, True, False, 0, 1, -1, 10 ** 99, "", "a", "m", "z a", "z" * 2000,
    (), ("a",), ("z", "a", "m"), {}, {"a": "a"}, {0: "a"}, (["a"],),
]

NO_MOVES = [
    None, True, False, 0, 1, -1, 10 ** 99, "", "a", "m", "0 a", "(0, 'm')", [], {}, (), [[]], ([],),
    (0,), ("m",), ((0, "m"),), [(0, "m")], (0, "m", 0), (0, "m", None), (0, 0, "m"), (0, "a", "m"),
    [0, "m"], ["m", 0], ("m", 0), ("0", "m"), (None, "m"), ([0], "m"), ((0,), "m"), ({}, "m"), ("z", "m"),
    (True, "m"), (False, "m"), (False, "z"), (True, "z"),
    (-1, "m"), (-2, "m"), (-3, "m"), (3, "m"), (8, "m"), (10 ** 99, "m"), (-10 ** 99, "m"),
    (0, "a"), (0, "o"), (0, "zz"), (0, ""), (0, "M"), (0, " m"), (0, "m "), (0, None), (0, 0), (0, True),
    (0, ["m"]), (0, ("m",)), (0, {"m": "m"}), (0, []), (1, "m"), (1, "z"), {0: "m"}, {"m": 0},
]


class Heaps(unittest.TestCase):
    def test_heaps_of_none_to_eight_tokens(self):
        for rows in ROWS_OF_GROUNDS:
            ground = Ground(rows)
            for heap in heaps_on(ground):
                self.assertIs(need_heap(ground, heap), None)

    def test_moves_by_hand(self):
        ground = read_ground(GROUND)
        for heap, moves, left in BY_HAND:
            self.assertEqual(moves_of(ground, heap), moves)
            self.assertIs(is_over(ground, heap), moves == [])
            self.assertEqual([after(ground, heap, move) for move in moves], left)

    def test_moves_by_the_roads(self):
        for ground in mixed_grounds(60):
            roads = dict(ground.rows())
            for heap in heaps_on(ground):
                moves = [(token, end) for token in range(len(heap)) for end in roads[heap[token]]]
                self.assertEqual(moves_of(ground, heap), moves)
                self.assertIs(is_over(ground, heap), len(moves) == 0)
                for token, end in moves:
                    self.assertEqual(after(ground, heap, (token, end)), heap[:token] + [end] + heap[token + 1:])

    def test_kinds_of_what_is_told(self):
        ground = read_ground(GROUND)
        for heap, moves, left in BY_HAND:
            told = moves_of(ground, heap)
            self.assertIs(type(told), list)
            for move in told:
                self.assertIs(type(move), tuple)
                self.assertIs(type(move[0]), int)
                self.assertIs(type(move[1]), str)
                self.assertIs(type(after(ground, heap, move)), list)


class NoHeaps(RefusalCase):
    def refuse(self, kind, field, ground, heap):
        self.assert_refused(kind, field, need_heap, ground, heap)
        self.assert_refused(kind, field, moves_of, ground, heap)
        self.assert_refused(kind, field, is_over, ground, heap)
        for move in ((0, "m"), (9, "m"), None, [], "m", {}):
            self.assert_refused(kind, field, after, ground, heap, move)

    def test_what_is_no_list(self):
        for thing in NO_LISTS:
            self.refuse(NoHeap, thing, read_ground(GROUND), thing)

    def test_more_than_eight_things(self):
        ground = read_ground(GROUND)
        for many in (9, 10, 100):
            self.refuse(TooMany, many, ground, ["a"] * many)
            self.refuse(TooMany, many, ground, ["zz"] * many)
            self.refuse(TooMany, many, ground, [None] * many)
            self.refuse(TooMany, many, ground, [[]] + ["a"] * (many - 1))

    def test_things_that_are_no_places(self):
        for ground in (Ground([("b", ("b",))]), Ground([("b", ("m",)), ("m", ())]), Ground(ring(5))):
            for thing in NO_NAMES + ["o", "zz", "bb", "hgfedcba", ["b"], ("b",), {"b": "b"}]:
                self.refuse(NoPlace, thing, ground, [thing])
                self.refuse(NoPlace, thing, ground, ["b", thing])
                self.refuse(NoPlace, thing, ground, [thing, "b", None])
                self.refuse(NoPlace, thing, ground, ["b"] * 7 + [thing])
                self.refuse(NoPlace, "zz", ground, ["b", "zz", thing])


class NoMoves(RefusalCase):
    def test_things_that_are_no_moves(self):
        ground = read_ground("z: m\na: z\nm: a")
        for thing in NO_MOVES:
            self.assert_refused(NoMove, thing, after, ground, ["z", "m"], thing)

    def test_a_heap_without_moves(self):
        ground = read_ground(GROUND)
        for heap in ([], ["m"], ["m", "m"]):
            for thing in NO_MOVES + [(0, "z")]:
                self.assert_refused(NoMove, thing, after, ground, heap, thing)

    def test_all_pairs_of_a_number_and_a_place(self):
        for ground in mixed_grounds(11):
            for heap in heaps_on(ground):
                moves = moves_of(ground, heap)
                for token in range(-9, 10):
                    for place in ground.names() + ["zz"]:
                        if (token, place) not in moves:
                            self.assert_refused(NoMove, (token, place), after, ground, heap, (token, place))

    def test_a_truth_is_no_token(self):
        ground = Ground([("a", ("a",))])
        self.assertEqual(after(ground, ["a", "a"], (1, "a")), ["a", "a"])
        for thing in ((True, "a"), (False, "a")):
            self.assert_refused(NoMove, thing, after, ground, ["a", "a"], thing)

    def test_a_list_is_no_move(self):
        ground = Ground([("a", ("a",))])
        for thing in ([0, "a"], [(0, "a")], {0: "a"}, ((0, "a"),)):
            self.assert_refused(NoMove, thing, after, ground, ["a"], thing)


class OwnHeaps(RefusalCase):
    def assert_as_ever(self, ground):
        for heap, moves, left in BY_HAND:
            self.assertEqual(moves_of(ground, heap), moves)
            self.assertIs(is_over(ground, heap), moves == [])
            self.assertEqual([after(ground, heap, move) for move in moves], left)

    def test_what_was_told_is_changed(self):
        ground = read_ground(GROUND)
        for heap, moves, left in BY_HAND:
            for change in (list.clear, list.reverse, lambda told: told.append("zz")):
                change(moves_of(ground, heap))
                for move in moves:
                    change(after(ground, heap, move))
                self.assert_as_ever(ground)

    def test_what_is_handed_in_is_not_changed(self):
        ground = read_ground(GROUND)
        for heap, moves, left in BY_HAND:
            handed = list(heap)
            need_heap(ground, handed)
            is_over(ground, handed)
            for move in moves_of(ground, handed):
                told = after(ground, handed, move)
                self.assertIsNot(told, handed)
                told.append("zz")
                self.assertEqual(handed, heap)

    def test_what_was_handed_in_is_changed(self):
        ground = read_ground(GROUND)
        handed = ["a", "m"]
        told = moves_of(ground, handed)
        left = after(ground, handed, (0, "z"))
        handed[0] = "zz"
        self.assertEqual(told, [(0, "z"), (0, "m")])
        self.assertEqual(left, ["z", "m"])
        self.assert_refused(NoPlace, "zz", moves_of, ground, handed)
        self.assert_as_ever(ground)

    def test_the_heap_behind_a_move_to_the_same_place_is_a_new_list(self):
        ground = Ground([("a", ("a",))])
        handed = ["a"]
        left = after(ground, handed, (0, "a"))
        self.assertEqual(left, handed)
        self.assertIsNot(left, handed)

    def test_a_ground_of_other_roads_is_asked_between(self):
        ground = read_ground(GROUND)
        other = turned_round(ground)
        for again in range(2):
            self.assert_as_ever(ground)
            self.assertEqual(moves_of(other, ["m", "z"]), [(0, "z"), (0, "a"), (1, "z"), (1, "a")])
            self.assertIs(is_over(other, ["m"]), False)
            self.assertEqual(after(other, ["m"], (0, "a")), ["a"])
            self.assert_refused(NoMove, (0, "m"), after, other, ["a"], (0, "m"))

    def test_a_ground_made_alike_tells_the_same(self):
        self.assert_as_ever(Ground([("z", ("a", "m", "z")), ("a", ("m", "z")), ("m", ())]))


if __name__ == "__main__":
    unittest.main()
