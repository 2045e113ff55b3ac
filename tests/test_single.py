import itertools
import unittest

from helper import (
    LETTERS, NO_NAMES, ROWS_OF_GROUNDS, RefusalCase, ShownCase, all_grounds, ladder, mixed_grounds, ring, rows_with,
    stairs, turned_round, with_other_names,
)
from ringheaps.errors import NoPlace
from ringheaps.ground import Ground
from ringheaps.groundtext import read_ground
from ringheaps.single import best_moves, shows_single, table_of

DRAWN = ("drawn", None)

# A ring of a, b, c with a way out from c to d, which has no roads.
RING_WITH_WAY_OUT = "a: b\nb: c\nc: a d\nd:"

# Each one: a text of a ground, its table, and the best moves from each place.
BY_HAND = [
    ("a:", {"a": ("lost", 0)}, {"a": []}),
    ("a: a", {"a": DRAWN}, {"a": ["a"]}),
    ("a: a b\nb:", {"a": ("won", 1), "b": ("lost", 0)}, {"a": ["b"], "b": []}),
    ("a: b\nb: a", {"a": DRAWN, "b": DRAWN}, {"a": ["b"], "b": ["a"]}),
    # No entry hangs on that of a.
    ("a: b\nb: b", {"a": DRAWN, "b": DRAWN}, {"a": ["b"], "b": ["b"]}),
    ("a: b\nb: c\nc:", {"a": ("lost", 2), "b": ("won", 1), "c": ("lost", 0)}, {"a": ["b"], "b": ["c"], "c": []}),
    (
        RING_WITH_WAY_OUT,
        {"a": ("won", 3), "b": ("lost", 2), "c": ("won", 1), "d": ("lost", 0)},
        {"a": ["b"], "b": ["c"], "c": ["d"], "d": []},
    ),
    (
        # d and e go round: who goes from d to b loses.
        "a:\nb: a\nc: b\nd: b e\ne: d",
        {"a": ("lost", 0), "b": ("won", 1), "c": ("lost", 2), "d": DRAWN, "e": DRAWN},
        {"a": [], "b": ["a"], "c": ["b"], "d": ["e"], "e": ["d"]},
    ),
    (
        # From f roads lead to places lost in 0, in 2 and in 4 moves: the shortest way is the best one.
        "f: c a e\ne: b d\nd: c\nc: b\nb: a\na:",
        {"f": ("won", 1), "e": ("lost", 4), "d": ("won", 3), "c": ("lost", 2), "b": ("won", 1), "a": ("lost", 0)},
        {"f": ["a"], "e": ["d"], "d": ["c"], "c": ["b"], "b": ["a"], "a": []},
    ),
    (
        # Several best moves, in the order of the places.
        "z: d b c\nd:\nc:\nb: c d\na: b z a",
        {"z": ("won", 1), "d": ("lost", 0), "c": ("lost", 0), "b": ("won", 1), "a": DRAWN},
        {"z": ["d", "c"], "d": [], "c": [], "b": ["d", "c"], "a": ["a"]},
    ),
    (
        # Lost with two longest ways.
        "a: c b\nb: d\nc: d\nd:",
        {"a": ("lost", 2), "b": ("won", 1), "c": ("won", 1), "d": ("lost", 0)},
        {"a": ["b", "c"], "b": ["d"], "c": ["d"], "d": []},
    ),
]


def ways_within(ground, most):
    """By promise 3, move by move: for each place the least number of moves within which it is won or lost for sure."""
    within = {}
    for moves in range(most + 1):
        ahead = dict(within)
        for name in ground.names():
            words = [ahead.get(end, DRAWN)[0] for end in ground.roads_from(name)]
            if name not in ahead and "lost" in words:
                within[name] = ("won", moves)
            if name not in ahead and set(words) <= {"won"}:
                within[name] = ("lost", moves)
    return {name: within.get(name, DRAWN) for name in ground.names()}


def many_grounds():
    for rows in ROWS_OF_GROUNDS:
        yield Ground(rows)
    for places in (1, 2, 3):
        yield from all_grounds(places)
    yield from mixed_grounds(150)


class Tables(unittest.TestCase):
    def test_tables_by_hand(self):
        for text, table, best in BY_HAND:
            self.assertEqual(table_of(read_ground(text)), table, text)

    def test_no_roads(self):
        for many in (1, 2, 14):
            self.assertEqual(table_of(Ground(rows_with(many, 0))), {name: ("lost", 0) for name in LETTERS[:many]})

    def test_ladders(self):
        for many in range(1, 15):
            table = table_of(Ground(ladder(many)))
            for place in range(many):
                left = many - 1 - place
                self.assertEqual(table[LETTERS[place]], ("won" if left % 2 else "lost", left))

    def test_stairs(self):
        table = table_of(Ground(stairs(9)))
        self.assertEqual(table, {name: ("lost", 0) if name == "a" else ("won", 1) for name in LETTERS[:9]})

    def test_rings_and_roads_to_the_same_place(self):
        for many in range(1, 15):
            self.assertEqual(table_of(Ground(ring(many))), {name: DRAWN for name in LETTERS[:many]})
            self.assertEqual(table_of(Ground(rows_with(many, many))), {name: DRAWN for name in LETTERS[:many]})

    def test_rings_with_a_way_out(self):
        for many in range(2, 14):
            rows = ring(many)
            rows[0] = ("a", ("b", "out"))
            table = table_of(Ground(rows + [("out", ())]))
            self.assertEqual(table["out"], ("lost", 0))
            self.assertEqual(table["a"], ("won", 1))
            for place in range(1, many):
                left = many - place + 1
                self.assertEqual(table[LETTERS[place]], ("won" if left % 2 else "lost", left))

    def test_ways_found_move_by_move(self):
        for ground in many_grounds():
            self.assertEqual(table_of(ground), ways_within(ground, 16), ground.rows())

    def test_kinds_and_names_of_what_is_told(self):
        for ground in mixed_grounds(40):
            table = table_of(ground)
            self.assertIs(type(table), dict)
            self.assertEqual(sorted(table), sorted(ground.names()))
            for entry in table.values():
                self.assertIs(type(entry), tuple)
                self.assertEqual(len(entry), 2)
                self.assertIn(entry[0], ("lost", "won", "drawn"))
                self.assertIs(type(entry[1]), type(None) if entry[0] == "drawn" else int)


class TablesThatShowThemselves(ShownCase):
    def test_the_told_table_shows_itself(self):
        for ground in many_grounds():
            self.assert_answer(True, shows_single, ground, table_of(ground))

    def test_the_order_of_the_names_is_free(self):
        for text, table, best in BY_HAND:
            self.assert_answer(True, shows_single, read_ground(text), dict(reversed(list(table.items()))))

    def test_no_other_table_of_two_or_three_places(self):
        grounds = list(all_grounds(2)) + list(itertools.islice(all_grounds(3), 0, None, 11))
        entries = [DRAWN] + [(word, number) for word in ("lost", "won") for number in range(4)]
        for ground in grounds:
            table = table_of(ground)
            for told in itertools.product(entries, repeat=len(table)):
                thing = dict(zip(ground.names(), told))
                self.assertIs(shows_single(ground, thing), thing == table, (ground.rows(), thing))

    def test_one_entry_put_otherwise(self):
        for text, table, best in BY_HAND:
            ground = read_ground(text)
            for name, entry in table.items():
                for other in others_of(entry):
                    self.assert_answer(False, shows_single, ground, {**table, name: other})

    def test_a_name_more_or_less(self):
        for text, table, best in BY_HAND:
            for thing in with_other_names(table):
                self.assert_answer(False, shows_single, read_ground(text), thing)

    def test_tables_in_which_all_is_drawn(self):
        for ground in many_grounds():
            drawn = {name: DRAWN for name in ground.names()}
            self.assert_answer(table_of(ground) == drawn, shows_single, ground, drawn)

    def test_numbers_that_feed_on_themselves(self):
        ground = Ground(ring(2))
        for number in (0, 1, 2, 10 ** 99):
            self.assert_answer(False, shows_single, ground, {"a": ("won", number + 1), "b": ("lost", number)})
            self.assert_answer(False, shows_single, ground, {"a": ("won", number), "b": ("lost", number)})
            self.assert_answer(False, shows_single, ground, {"a": ("lost", number + 1), "b": ("won", number)})

    def test_what_is_no_dict(self):
        for ground in (Ground([("a", ())]), Ground(ring(3)), Ground(rows_with(14, 40))):
            for thing in NO_NAMES + ["a", "lost", ("lost", 0), ("drawn", None), [("a", ("lost", 0))], ["a", "b", "c"]]:
                self.assert_answer(False, shows_single, ground, thing)
            table = table_of(ground)
            for thing in (list(table), list(table.items()), tuple(table.items()), list(table.values())):
                self.assert_answer(False, shows_single, ground, thing)

    def test_the_table_of_another_ground(self):
        for ground in mixed_grounds(60):
            other = turned_round(ground)
            self.assert_answer(table_of(ground) == table_of(other), shows_single, ground, table_of(other))


def others_of(entry):
    """What stands for an entry otherwise."""
    word, number = entry
    others = [(other, number) for other in ("lost", "won", "drawn", "Won", "win", "", None, 0, True, ["won"], {}, ())]
    others += [(other, 0) for other in ("win", "Drawn", "drawn", "", None, 0, False, ["won"], {}, ())]
    others += [(word, other) for other in (-1, 10 ** 99, -10 ** 99, True, False, None, "", "0", "1", [], {}, (0,))]
    others += [(word, near) for near in ((number or 0) - 1, number or 0, (number or 0) + 1, str(number), [number])]
    others += [("drawn", None), ("drawn", 0), ("drawn", False), ("drawn", 1), ("lost", None), ("won", None)]
    others = [other for other in others if repr(other) != repr(entry)]
    others += [list(entry), (word,), (number,), (word, number, None), (word, number, number), (), (entry,)]
    others += [{word: number}]
    others += [word, number, None, True, 0, "", [], {}, (number, word), ((word, number), None), [word]]
    return others


class BestMoves(RefusalCase):
    def test_best_moves_by_hand(self):
        for text, table, best in BY_HAND:
            ground = read_ground(text)
            for name in ground.names():
                self.assertEqual(best_moves(ground, name), best[name], (text, name))

    def test_best_moves_by_the_numbers(self):
        for ground in many_grounds():
            table = table_of(ground)
            for name in ground.names():
                word, number = table[name]
                best = []
                for end in ground.roads_from(name):
                    other, left = table[end]
                    if word == "drawn" and other == "drawn":
                        best.append(end)
                    if (word, other) in (("won", "lost"), ("lost", "won")) and left + 1 == number:
                        best.append(end)
                self.assertEqual(best_moves(ground, name), best)

    def test_none_just_where_there_is_no_road(self):
        for ground in many_grounds():
            for name in ground.names():
                self.assertEqual(best_moves(ground, name) == [], ground.roads_from(name) == [])

    def test_what_is_no_place(self):
        for ground in (Ground([("b", ())]), Ground(ring(3)), Ground(rows_with(14, 40))):
            for thing in NO_NAMES + ["o", "zz", "hgfedcba", ["b"], {"b": "b"}, ("b",)]:
                self.assert_refused(NoPlace, thing, best_moves, ground, thing)


class OwnTables(RefusalCase):
    def test_what_was_told_is_changed(self):
        for text, table, best in BY_HAND:
            ground = read_ground(text)
            for change in (dict.clear, lambda told: told.update(a=("won", 7)), lambda told: told.update(zz=DRAWN)):
                told = table_of(ground)
                change(told)
                self.assertEqual(table_of(ground), table)
                self.assertIs(shows_single(ground, table), True)
                self.assertIs(shows_single(ground, told), told == table)
            for name in ground.names():
                told = best_moves(ground, name)
                told.reverse()
                told.append("zz")
                self.assertEqual(best_moves(ground, name), best[name])
            self.assertIsNot(table_of(ground), table_of(ground))
            self.assertEqual(table_of(ground), table)

    def test_what_was_handed_in_is_changed(self):
        rows = [("a", ("a", "b")), ("b", ())]
        ground = Ground(rows)
        handed = table_of(ground)
        self.assertIs(shows_single(ground, handed), True)
        rows.clear()
        handed["b"] = ("lost", 1)
        self.assertIs(shows_single(ground, handed), False)
        handed["b"] = ("lost", 0)
        self.assertIs(shows_single(ground, handed), True)
        self.assertEqual(table_of(ground), {"a": ("won", 1), "b": ("lost", 0)})
        thing = ["a"]
        self.assert_refused(NoPlace, ["a"], best_moves, ground, thing)
        thing.clear()
        self.assertEqual(best_moves(ground, "a"), ["b"])

    def test_a_ground_of_other_roads_is_asked_between(self):
        for ground in list(mixed_grounds(40)) + list(all_grounds(2)):
            other = turned_round(ground)
            tables = (table_of(ground), table_of(other))
            best = [[best_moves(one, name) for name in one.names()] for one in (ground, other)]
            for again in range(2):
                self.assertEqual((table_of(ground), table_of(other)), tables)
                self.assertEqual(
                    [[best_moves(one, name) for name in one.names()] for one in (ground, other)], best)
                self.assertIs(shows_single(ground, tables[0]), True)
                self.assertIs(shows_single(other, tables[1]), True)

    def test_a_ground_made_alike_tells_the_same(self):
        for ground in mixed_grounds(40):
            alike = Ground([(name, tuple(reversed(ends))) for name, ends in ground.rows()])
            self.assertEqual(table_of(alike), table_of(ground))
            for name in ground.names():
                self.assertEqual(best_moves(alike, name), best_moves(ground, name))


if __name__ == "__main__":
    unittest.main()
