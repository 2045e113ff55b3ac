import itertools
import unittest

from helper import (
    LETTERS, ROWS_OF_GROUNDS, RULES, TWO_ZEROS, WITH_RINGS, AgainCase, Player, RefusalCase, all_grounds, all_heaps,
    heaps_on, ladder, mixed_grounds, ring, rows_with, stairs, without_rings,
)
from ringheaps.errors import Ring
from ringheaps.ground import Ground
from ringheaps.groundtext import read_ground
from ringheaps.labels import labels_of
from ringheaps.outcomes import outcome
from ringheaps.plainly import plain_numbers, ring_in
from ringheaps.plays import played

# Each one: a text of a ground, and all its rings, each from its first place in the ground's order on.
RINGS_BY_HAND = [
    ("a: a", [["a"]]),
    ("a: b\nb: a", [["a", "b"]]),
    ("b: a\na: b", [["b", "a"]]),
    ("a: a b\nb: a", [["a"], ["a", "b"]]),
    ("a: b\nb: c\nc: b", [["b", "c"]]),
    ("a: b c\nb:\nc: d\nd: c b", [["c", "d"]]),
    ("a: b\nb: c d\nc: a\nd: b", [["a", "b", "c"], ["b", "d"]]),
    ("a: b\nb:\nc: d\nd: e\ne: c", [["c", "d", "e"]]),
    (WITH_RINGS, [["e"], ["f"], ["g"]]),
]

# Each one: a text of a ground without rings, and its plain numbers.
NUMBERS_BY_HAND = [
    ("a:", {"a": 0}),
    ("a:\nb:", {"a": 0, "b": 0}),
    ("a: b\nb:", {"a": 1, "b": 0}),
    ("a: b c\nb: c\nc:", {"a": 2, "b": 1, "c": 0}),
    ("a: b d\nb: c\nc: d\nd:", {"a": 1, "b": 0, "c": 1, "d": 0}),
    (TWO_ZEROS, {"x": 1, "p": 0, "r": 1, "q": 0}),
    ("z: y x\ny: x w\nx: w\nw:\nv: z y", {"z": 0, "y": 2, "x": 1, "w": 0, "v": 1}),
]


def ringless_grounds():
    yield from (read_ground(text) for text, numbers in NUMBERS_BY_HAND)
    yield from map(Ground, (rows_with(1, 0), rows_with(14, 0), ladder(2), ladder(14), stairs(9)))
    yield from (without_rings(ground) for ground in all_grounds(3))
    yield from (without_rings(ground) for ground in mixed_grounds(60))


def come_to(ground, name):
    """The places to which one can come from the place, along one road or more."""
    met = []
    waiting = ground.roads_from(name)
    for end in waiting:
        if end not in met:
            met.append(end)
            waiting.extend(ground.roads_from(end))
    return met


def is_ring(ground, told):
    if type(told) is not list or not told or len(set(told)) < len(told):
        return False
    return all(end in ground.roads_from(name) for name, end in zip(told, told[1:] + told[:1]))


class Rings(unittest.TestCase):
    def test_by_hand(self):
        for text, rings in RINGS_BY_HAND:
            ground = read_ground(text)
            told = ring_in(ground)
            turned = [told[number:] + told[:number] for number in range(len(told))]
            self.assertTrue(any(one in rings for one in turned), (text, told))

    def test_no_rings(self):
        for ground in ringless_grounds():
            self.assertIs(ring_in(ground), None)

    def test_a_ring_is_told_just_where_there_is_one(self):
        seen = {True: 0, False: 0}
        grounds = itertools.chain(
            map(Ground, ROWS_OF_GROUNDS), all_grounds(1), all_grounds(2), all_grounds(3), mixed_grounds(150))
        for ground in grounds:
            told = ring_in(ground)
            round_about = any(name in come_to(ground, name) for name in ground.names())
            self.assertEqual(told is not None, round_about)
            if told is not None:
                self.assertTrue(is_ring(ground, told), (ground.rows(), told))
            seen[round_about] += 1
        self.assertGreater(min(seen.values()), 25)

    def test_one_ring_of_each_length(self):
        for many in range(1, 15):
            told = ring_in(Ground(ring(many)))
            self.assertEqual(sorted(told), list(LETTERS[:many]))
            self.assertTrue(is_ring(Ground(ring(many)), told))

    def test_one_road_more_than_none(self):
        """One road back, anywhere in a ladder or in stairs, makes the only rings."""
        for rows in (ladder(6), stairs(5), ladder(14)):
            names = [name for name, ends in rows]
            for start, end in itertools.product(range(len(rows)), repeat=2):
                ends = rows[start][1] + ((names[end],) if names[end] not in rows[start][1] else ())
                ground = Ground(rows[:start] + [(names[start], ends)] + rows[start + 1:])
                told = ring_in(ground)
                if names[start] in come_to(ground, names[start]):
                    self.assertTrue(is_ring(ground, told))
                    self.assertIn(names[start], told)
                else:
                    self.assertIs(told, None)


class PlainNumbers(RefusalCase):
    def test_by_hand(self):
        for text, numbers in NUMBERS_BY_HAND:
            self.assertEqual(plain_numbers(read_ground(text)), numbers, text)

    def test_each_is_the_least_lacking_number(self):
        for ground in ringless_grounds():
            told = plain_numbers(ground)
            self.assertIs(type(told), dict)
            self.assertEqual(sorted(told), sorted(ground.names()))
            for name in ground.names():
                self.assertIs(type(told[name]), int)
                behind = {told[end] for end in ground.roads_from(name)}
                self.assertEqual(told[name], min(set(range(16)) - behind))

    def test_high_ladders_in_any_order(self):
        rows = ladder(14)
        for leap in (1, 3, 5, 9, 11, 13):
            mixed = [rows[number * leap % 14] for number in range(14)]
            expected = {LETTERS[place]: (13 - place) % 2 for place in range(14)}
            self.assertEqual(plain_numbers(Ground(mixed)), expected)
        for leap in (1, 2, 4, 5, 7, 8):
            mixed = [stairs(9)[number * leap % 9] for number in range(9)]
            self.assertEqual(plain_numbers(Ground(mixed)), {LETTERS[place]: place for place in range(9)})

    def test_a_ground_with_a_ring(self):
        for text, rings in RINGS_BY_HAND:
            ground = read_ground(text)
            self.assert_refused(Ring, ring_in(ground), plain_numbers, ground)
        for ground in itertools.chain(map(Ground, ROWS_OF_GROUNDS), all_grounds(2), mixed_grounds(60)):
            told = ring_in(ground)
            if told is not None:
                self.assert_refused(Ring, told, plain_numbers, ground)


class WithoutRings(unittest.TestCase):
    def test_they_are_the_numbers_of_the_labels(self):
        for ground in ringless_grounds():
            labels = labels_of(ground)
            for name, number in plain_numbers(ground).items():
                self.assertEqual(labels[name][:2], ("number", number))

    def test_no_heap_is_drawn(self):
        for ground in ringless_grounds():
            numbers = plain_numbers(ground)
            for heap in itertools.chain(heaps_on(ground), all_heaps(ground, 2)[::7]):
                total = 0
                for place in heap:
                    total ^= numbers[place]
                self.assertEqual(outcome(ground, heap), "won" if total else "lost")

    def test_lengths_of_plays(self):
        for ground in ringless_grounds():
            for heap in list(heaps_on(ground))[::4]:
                most = len(heap) * (len(ground.names()) - 1)
                for rule in RULES:
                    hand = Player(ground, rule)
                    made, word = played(ground, heap, hand.tell, hand.tell, 1000)
                    self.assertNotEqual(word, "open")
                    self.assertLessEqual(len(made), most)

    def test_the_longest_plays(self):
        for many in range(1, 15):
            ground = Ground(ladder(many))
            for tokens in (0, 1, 8):
                hand = Player(ground, RULES[0])
                made, word = played(ground, ["a"] * tokens, hand.tell, hand.tell, 1000)
                self.assertEqual(len(made), tokens * (many - 1))

    def test_places_from_which_no_ring_can_be_come_to(self):
        seen = 0
        grounds = itertools.chain(
            map(Ground, ROWS_OF_GROUNDS), all_grounds(2), all_grounds(3), mixed_grounds(120), mixed_grounds(60, 4))
        for ground in grounds:
            rounds = [name for name in ground.names() if name in come_to(ground, name)]
            plain = [name for name in ground.names() if not set([name] + come_to(ground, name)) & set(rounds)]
            if not plain:
                continue
            numbers = plain_numbers(Ground([(name, ends) for name, ends in ground.rows() if name in plain]))
            labels = labels_of(ground)
            for name in plain:
                self.assertEqual(labels[name][:2], ("number", numbers[name]))
            seen += len(rounds) > 0 and len(plain) > 1
        self.assertGreater(seen, 50)


class OwnPlainly(AgainCase):
    def all_told(self, ground):
        told = ring_in(ground)
        return told if told is not None else plain_numbers(ground)

    def test_all_is_told_again(self):
        self.assert_told_again(self.all_told, itertools.chain(ringless_grounds(), all_grounds(2), mixed_grounds(60)))

    def test_what_was_told_is_changed(self):
        ground = read_ground("a: b\nb: a")
        told = ring_in(ground)
        kept = list(told)
        for change in (list.clear, list.reverse, lambda one: one.append("zz")):
            change(told)
            self.assertEqual(ring_in(ground), kept)
            with self.assertRaises(Ring) as caught:
                plain_numbers(ground)
            self.assertEqual(caught.exception.places, kept)
            change(caught.exception.places)
            self.assertEqual(ring_in(ground), kept)
            told = ring_in(ground)
        ground = read_ground("a: b\nb:")
        for change in (dict.clear, lambda one: one.update(a=7), lambda one: one.pop("b")):
            change(plain_numbers(ground))
            self.assertEqual(plain_numbers(ground), {"a": 1, "b": 0})

    def test_what_was_handed_in_is_changed(self):
        rows = [("a", ("b",)), ("b", ())]
        ground = Ground(rows)
        rows[1] = ("b", ("a",))
        self.assertEqual((ring_in(ground), plain_numbers(ground)), (None, {"a": 1, "b": 0}))
        self.assertEqual(rows, [("a", ("b",)), ("b", ("a",))])


if __name__ == "__main__":
    unittest.main()
