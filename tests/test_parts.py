import itertools
import unittest

from helper import (
    NO_NAMES, ROWS_OF_GROUNDS, THREE_ROUND, TWO_ZEROS, WITH_RINGS, AgainCase, RefusalCase, all_grounds, all_heaps,
    heaps_on, ladder, mixed_grounds, outcomes_going_back, ring, rows_with, stairs,
)
from ringheaps.errors import NoPlace
from ringheaps.ground import Ground
from ringheaps.groundtext import read_ground, show_ground
from ringheaps.labels import labels_of, worth_of
from ringheaps.outcomes import outcome
from ringheaps.parts import alike, least_ground, parting

# Each one: a text of a ground, the text of its least ground, and the dict of its places.
LEAST_BY_HAND = [
    ("a:", "a:", {"a": "a"}),
    ("a: a", "a: a", {"a": "a"}),
    ("b: a\na: b", "b: b", {"b": "b", "a": "b"}),
    ("c:\nb:\na:", "c:", {"c": "c", "b": "c", "a": "c"}),
    ("a: b\nb: c\nc: d\nd:", "a: b\nb:", {"a": "a", "b": "b", "c": "a", "d": "b"}),
    ("b: a c\na: b\nc:", "b: a\na:", {"b": "b", "a": "a", "c": "a"}),
    ("a: b\nb: b c\nc:", "a:\nb: a b", {"a": "a", "b": "b", "c": "a"}),
    (TWO_ZEROS, "x: p\np:", {"x": "x", "p": "p", "r": "x", "q": "p"}),
    (WITH_RINGS, WITH_RINGS, {name: name for name in "oijefg"}),
    (
        THREE_ROUND, "o:\ni: o\nj: o i\ns: o s\nt: i t\nu: u",
        {name: name for name in "oijstu"},
    ),
    (
        # The places stand in the order of the first places of the worths, and the roads in the places' order.
        "z: z b\nx: a\ny: y b\nd: a c x\nb: a\nc:\na:",
        "z: z x\nx: c\nd: x c\nc:",
        {"z": "z", "x": "x", "y": "z", "d": "d", "b": "x", "c": "c", "a": "c"},
    ),
]


def many_grounds():
    yield from map(Ground, ROWS_OF_GROUNDS)
    yield from map(read_ground, (TWO_ZEROS, WITH_RINGS, THREE_ROUND, "a: b\nb: a c\nc:", "a: b\nb: c\nc: a d\nd:"))
    yield from all_grounds(1)
    yield from all_grounds(2)
    yield from itertools.islice(all_grounds(3), 0, None, 9)
    yield from mixed_grounds(22)
    yield from mixed_grounds(22, 4)


def pairs_of(ground):
    return itertools.product(ground.names(), repeat=2)


class Alike(unittest.TestCase):
    def test_by_hand(self):
        ground = read_ground("a: b\nb: b c\nc:\nd: c\ne: e c\nf: f")
        same = [("a", "c"), ("b", "e"), ("c", "a"), ("e", "b")] + [(name, name) for name in "abcdef"]
        for one, other in pairs_of(ground):
            self.assertIs(alike(ground, one, other), (one, other) in same, (one, other))

    def test_no_roads_ladders_and_rings(self):
        for many in (1, 2, 5, 14):
            for one, other in pairs_of(Ground(rows_with(many, 0))):
                self.assertIs(alike(Ground(rows_with(many, 0)), one, other), True)
                self.assertIs(alike(Ground(ring(many)), one, other), True)
                self.assertIs(alike(Ground(ladder(many)), one, other), (ord(one) - ord(other)) % 2 == 0)
        for one, other in pairs_of(Ground(stairs(9))):
            self.assertIs(alike(Ground(stairs(9)), one, other), one == other)

    def test_just_where_the_worth_is_the_same(self):
        seen = []
        for ground in many_grounds():
            labels = labels_of(ground)
            for one, other in pairs_of(ground):
                answer = labels[one][:2] == labels[other][:2]
                self.assertIs(alike(ground, one, other), answer)
                seen.append((answer, labels[one][0], labels[other][0]))
        self.assertGreater(min(seen.count(kind) for kind in set(seen)), 100)
        self.assertEqual(len(set(seen)), 6)

    def test_alike_places_have_the_same_outcome_beside_all_heaps(self):
        for ground in itertools.chain(all_grounds(2), itertools.islice(all_grounds(3), 0, None, 29)):
            outcomes = {(): None}
            for tokens in (1, 2, 3):
                outcomes.update(outcomes_going_back(ground, tokens))
            beside = [tuple(heap) for tokens in (0, 1, 2) for heap in all_heaps(ground, tokens)]
            for one, other in pairs_of(ground):
                same = all(outcomes[(one,) + heap] == outcomes[(other,) + heap] for heap in beside)
                self.assertIs(alike(ground, one, other), same, (ground.rows(), one, other))


class Parting(unittest.TestCase):
    def test_by_hand(self):
        ground = read_ground("a:\nb: a")
        self.assertIn(parting(ground, "a", "b"), [("a", "lost", "won"), ("b", "won", "lost")])
        self.assertIn(parting(ground, "b", "a"), [("a", "won", "lost"), ("b", "lost", "won")])
        self.assertIs(parting(ground, "a", "a"), None)
        ground = read_ground("a:\nb: a b\nc: c")
        self.assertIn(parting(ground, "a", "b"), [("a", "lost", "won"), ("b", "won", "drawn")])
        self.assertEqual(parting(ground, "c", "b"), ("a", "drawn", "won"))
        self.assertEqual(parting(ground, "b", "c"), ("a", "won", "drawn"))
        self.assertEqual(parting(ground, "a", "c"), ("a", "lost", "drawn"))

    def test_the_third_place_and_its_outcomes(self):
        seen = set()
        for ground in many_grounds():
            for one, other in pairs_of(ground):
                told = parting(ground, one, other)
                if alike(ground, one, other):
                    self.assertIs(told, None)
                    continue
                self.assertIs(type(told), tuple)
                place, first, second = told
                self.assertIn(place, ground.names())
                self.assertNotEqual(first, second)
                self.assertEqual(first, outcome(ground, [one, place]))
                self.assertEqual(second, outcome(ground, [other, place]))
                seen.add((first, second))
        self.assertEqual(len(seen), 6)

    def test_the_outcomes_by_going_back(self):
        for ground in itertools.chain(all_grounds(2), itertools.islice(all_grounds(3), 0, None, 5), mixed_grounds(8)):
            outcomes = outcomes_going_back(ground, 2)
            for one, other in pairs_of(ground):
                told = parting(ground, one, other)
                if told is not None:
                    expected = (outcomes[(one, told[0])], outcomes[(other, told[0])])
                    self.assertEqual(told[1:], expected, (ground.rows(), one, other))


class RefusedPlaces(RefusalCase):
    def test_what_is_no_place(self):
        for ground in (Ground([("b", ())]), Ground(ring(3)), Ground(rows_with(14, 40))):
            for thing in NO_NAMES + ["o", "zz", "hgfedcba", ["b"], {"b": "b"}, ("b",)]:
                for call in (alike, parting):
                    self.assert_refused(NoPlace, thing, call, ground, thing, "b")
                    self.assert_refused(NoPlace, thing, call, ground, "b", thing)
                    self.assert_refused(NoPlace, thing, call, ground, thing, thing)
                    self.assert_refused(NoPlace, thing, call, ground, thing, "other")
                    self.assert_refused(NoPlace, "one", call, ground, "one", thing)


class LeastGrounds(unittest.TestCase):
    def test_by_hand(self):
        for text, least, places in LEAST_BY_HAND:
            told = least_ground(read_ground(text))
            self.assertIs(type(told), tuple)
            self.assertEqual((show_ground(told[0]), told[1]), (show_ground(read_ground(least)), places), text)
            self.assertIs(type(told[0]), Ground)
            self.assertIs(type(told[1]), dict)

    def test_word_by_word(self):
        for ground in many_grounds():
            labels = labels_of(ground)
            worths = {name: labels[name][:2] for name in ground.names()}
            firsts = []
            for name in ground.names():
                if worths[name] not in [worths[first] for first in firsts]:
                    firsts.append(name)
            least, places = least_ground(ground)
            self.assertEqual(least.names(), firsts)
            for name in firsts:
                kind, number = worths[name]
                ends = []
                for end in firsts:
                    if worths[end][0] == "number":
                        lesser = worths[end][1] < number
                        ends += [end] if (lesser if kind == "number" else number >> worths[end][1] & 1) else []
                    elif end == name:
                        ends.append(end)
                self.assertEqual(least.roads_from(name), ends, (ground.rows(), name))
            self.assertEqual(sorted(places), sorted(ground.names()))
            for name in ground.names():
                self.assertIn(places[name], firsts)
                self.assertEqual(worths[places[name]], worths[name])

    def test_worths_are_kept(self):
        for ground in many_grounds():
            least, places = least_ground(ground)
            for name in ground.names():
                self.assertEqual(worth_of(least, places[name]).told(), worth_of(ground, name).told())

    def test_heaps_of_the_told_places(self):
        for ground in many_grounds():
            least, places = least_ground(ground)
            for heap in heaps_on(ground):
                self.assertEqual(outcome(least, [places[name] for name in heap]), outcome(ground, heap))

    def test_heaps_of_the_told_places_by_going_back(self):
        for ground in itertools.chain(itertools.islice(all_grounds(3), 0, None, 7), mixed_grounds(6)):
            least, places = least_ground(ground)
            outcomes = outcomes_going_back(least, 2)
            for (one, other), word in outcomes_going_back(ground, 2).items():
                self.assertEqual(outcomes[(places[one], places[other])], word)

    def test_the_least_ground_of_a_least_ground(self):
        for ground in many_grounds():
            least, places = least_ground(ground)
            again, same = least_ground(least)
            self.assertEqual(again.rows(), least.rows())
            self.assertEqual(same, {name: name for name in least.names()})


class OwnParts(AgainCase):
    def all_told(self, ground):
        pairs = [(alike(ground, one, other), parting(ground, one, other)) for one, other in pairs_of(ground)]
        least, places = least_ground(ground)
        return (pairs, least.rows(), places)

    def test_all_is_told_again(self):
        self.assert_told_again(self.all_told, itertools.chain(mixed_grounds(14), all_grounds(2)))

    def test_what_was_told_is_changed(self):
        ground = read_ground("a: b\nb: c\nc:")
        least, places = least_ground(ground)
        for change in (dict.clear, lambda one: one.update(a="zz"), lambda one: one.pop("b")):
            change(places)
            least.rows().clear()
            least.names().clear()
            self.assertEqual(show_ground(least), "a:\nb: a")
            again, places = least_ground(ground)
            self.assertEqual((show_ground(again), places), ("a:\nb: a", {"a": "a", "b": "b", "c": "a"}))

    def test_what_was_handed_in_is_changed(self):
        rows = [("a", ("b",)), ("b", ())]
        ground = Ground(rows)
        told = least_ground(ground)
        rows.clear()
        self.assertEqual((show_ground(told[0]), told[1]), ("a: b\nb:", {"a": "a", "b": "b"}))
        self.assertEqual(show_ground(ground), "a: b\nb:")
        self.assertIs(alike(ground, "a", "b"), False)


if __name__ == "__main__":
    unittest.main()
