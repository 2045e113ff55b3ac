import itertools
import unittest

from helper import (
    LETTERS, ROWS_OF_GROUNDS, TWO_ZEROS, WITH_RINGS, AgainCase, RefusalCase, all_grounds, ladder, mixed_grounds,
    renamed, ring, rows_with, stairs, turned_round,
)
from ringheaps.errors import TooMany, Twice
from ringheaps.ground import Ground
from ringheaps.groundtext import read_ground, show_ground
from ringheaps.heaps import moves_of
from ringheaps.labels import labels_of, worth_of
from ringheaps.made import joined, paired

# Each one: texts of two grounds, and the text of the ground that is joined of them.
JOINED_BY_HAND = [
    ("a:", "b:", "a:\nb:"),
    ("b: b", "a:", "b: b\na:"),
    ("c: b\nb: c b", "a: d a\nd: a", "c: b\nb: c b\na: a d\nd: a"),
    ("a: a", "aa: aaa\naaa:", "a: a\naa: aaa\naaa:"),
]

# Each one: texts of two grounds, and the text of the ground that is paired of them.
PAIRED_BY_HAND = [
    ("x:", "x:", "a:"),
    ("x: x", "x:", "a: a"),
    ("x:", "y: y", "a: a"),
    ("x: x", "y: y", "a: a"),
    ("x: y\ny:", "x: y\ny:", "a: b c\nb: d\nc: d\nd:"),
    ("x: y\ny:", "p: q\nq: r\nr:", "a: b d\nb: c e\nc: f\nd: e\ne: f\nf:"),
    ("p: q\nq: r\nr:", "x: y\ny:", "a: b c\nb: d\nc: d e\nd: f\ne: f\nf:"),
    ("x: x y\ny:", "x: x y\ny:", "a: a b c\nb: b d\nc: c d\nd:"),
    ("x: y x\ny:", "p: q\nq: p q", "a: a b c\nb: a b d\nc: d\nd: c d"),
    ("x:\ny:", "p:\nq:", "a:\nb:\nc:\nd:"),
]


def small_pairs():
    """Pairs of grounds that can be paired."""
    grounds = list(all_grounds(1)) + list(all_grounds(2)) + list(itertools.islice(all_grounds(3), 0, None, 31))
    grounds += [read_ground(TWO_ZEROS), Ground(ladder(7)), Ground(ring(6)), Ground(stairs(4)), Ground(ladder(14))]
    for one, other in itertools.product(grounds, repeat=2):
        many = len(one.names()) * len(other.names())
        if many <= 14 and len(roads_of_pairs(one, other)) <= 40:
            yield (one, other)


def roads_of_pairs(one, other):
    """All roads of the paired ground, from pairs to pairs of numbers of places."""
    firsts, seconds = one.names(), other.names()
    roads = set()
    for i, j in itertools.product(range(len(firsts)), range(len(seconds))):
        roads.update(((i, j), (firsts.index(end), j)) for end in one.roads_from(firsts[i]))
        roads.update(((i, j), (i, seconds.index(end))) for end in other.roads_from(seconds[j]))
    return roads


class Joined(RefusalCase):
    def test_by_hand(self):
        for one, other, text in JOINED_BY_HAND:
            told = joined(read_ground(one), read_ground(other))
            self.assertIs(type(told), Ground)
            self.assertEqual(show_ground(told), text)

    def test_rows_and_labels_and_worths(self):
        many = 0
        grounds = list(itertools.chain(
            mixed_grounds(40), all_grounds(1), all_grounds(2), [read_ground(TWO_ZEROS), read_ground(WITH_RINGS)]))
        for one, other in itertools.product(grounds, [renamed(ground) for ground in grounds]):
            places = len(one.names()) + len(other.names())
            roads = sum(len(ends) for name, ends in one.rows() + other.rows())
            if places > 14 or roads > 40:
                continue
            told = joined(one, other)
            self.assertEqual(told.names(), one.names() + other.names())
            self.assertEqual(told.rows(), one.rows() + other.rows())
            self.assertEqual(labels_of(told), labels_of(Ground(one.rows() + other.rows())))
            for ground in (one, other):
                for name in ground.names():
                    self.assertEqual(worth_of(told, name).told(), worth_of(ground, name).told())
            many += 1
        self.assertGreater(many, 400)

    def test_steps_are_counted_anew(self):
        told = joined(read_ground("a: b\nb:"), read_ground("p: q\nq: r\nr:"))
        self.assertEqual(labels_of(told), {
            "a": ("number", 1, 2), "b": ("number", 0, 0),
            "p": ("number", 0, 1), "q": ("number", 1, 2), "r": ("number", 0, 0),
        })

    def test_fourteen_places_and_fifteen(self):
        for many in range(1, 14):
            for more in {max(13 - many, 1), 14 - many, 15 - many, 14}:
                one, other = Ground(rows_with(many, 0)), renamed(Ground(rows_with(more, 0)))
                if many + more <= 14:
                    self.assertEqual(len(joined(one, other).names()), many + more)
                else:
                    self.assert_refused(TooMany, many + more, joined, one, other)

    def test_forty_roads_and_more(self):
        for many, more in [(20, 20), (36, 4), (4, 36), (40, 0), (0, 40), (1, 39)]:
            one, other = Ground(rows_with(7, many)), renamed(Ground(rows_with(7, more)))
            self.assertEqual(sum(len(ends) for name, ends in joined(one, other).rows()), 40)
        for many, more in [(20, 21), (37, 4), (1, 40), (40, 1), (40, 40), (35, 7)]:
            one, other = Ground(rows_with(7, many)), renamed(Ground(rows_with(7, more)))
            self.assert_refused(TooMany, many + more, joined, one, other)

    def test_places_ahead_of_roads(self):
        one, other = Ground(rows_with(7, 40)), renamed(Ground(rows_with(8, 40)))
        self.assert_refused(TooMany, 15, joined, one, other)
        self.assert_refused(TooMany, 15, joined, other, one)

    def test_names_that_both_have(self):
        self.assert_refused(Twice, "a", joined, read_ground("a:"), read_ground("a:"))
        self.assert_refused(Twice, "b", joined, read_ground("a:\nb:"), read_ground("c: b\nb:"))
        # The first one in the order of the second ground.
        self.assert_refused(Twice, "b", joined, read_ground("a:\nb:\nc:"), read_ground("d:\nb:\ne:\na:"))
        self.assert_refused(Twice, "a", joined, read_ground("b:\na:"), read_ground("a:\nb:"))
        for rows in ROWS_OF_GROUNDS:
            self.assert_refused(Twice, rows[0][0], joined, Ground(rows), Ground(rows))

    def test_names_ahead_of_places_and_roads(self):
        self.assert_refused(Twice, "a", joined, Ground(rows_with(14, 40)), Ground(rows_with(14, 40)))
        self.assert_refused(Twice, "n", joined, Ground(rows_with(14, 0)), read_ground("z:\nn:\nm:"))
        self.assert_refused(Twice, "g", joined, Ground(rows_with(7, 40)), read_ground("g: g"))


class Paired(RefusalCase):
    def test_by_hand(self):
        for one, other, text in PAIRED_BY_HAND:
            told = paired(read_ground(one), read_ground(other))
            self.assertIs(type(told), tuple)
            self.assertEqual([type(part) for part in told], [Ground, dict])
            self.assertEqual(show_ground(told[0]), text, (one, other))

    def test_names_of_the_pairs(self):
        ground, places = paired(read_ground("x:\nw:"), read_ground("c: a\nb:\na:"))
        self.assertEqual(places, {
            ("x", "c"): "a", ("x", "b"): "b", ("x", "a"): "c", ("w", "c"): "d", ("w", "b"): "e", ("w", "a"): "f",
        })
        self.assertEqual(show_ground(ground), "a: c\nb:\nc:\nd: f\ne:\nf:")

    def test_places_and_roads_word_by_word(self):
        many = 0
        for one, other in small_pairs():
            ground, places = paired(one, other)
            size = len(other.names())
            self.assertEqual(ground.names(), list(LETTERS[:len(one.names()) * size]))
            expected = {}
            for i, first in enumerate(one.names()):
                for j, second in enumerate(other.names()):
                    expected[(first, second)] = LETTERS[i * size + j]
            self.assertEqual(places, expected)
            roads = [(name, end) for name in ground.names() for end in ground.roads_from(name)]
            pairs = roads_of_pairs(one, other)
            self.assertEqual(sorted(roads), sorted(
                (LETTERS[i * size + j], LETTERS[k * size + n]) for (i, j), (k, n) in pairs))
            many += 1
        self.assertGreater(many, 500)

    def test_worths_are_sums(self):
        for one, other in small_pairs():
            ground, places = paired(one, other)
            labels = labels_of(ground)
            self.assertEqual(labels, labels_of(Ground(ground.rows())))
            for (first, second), name in places.items():
                total = worth_of(one, first).plus(worth_of(other, second)).told()
                self.assertEqual(labels[name][:2], total, (one.rows(), other.rows(), first, second))

    def test_moves_are_those_of_two_tokens(self):
        for one, other in itertools.islice(small_pairs(), 0, None, 3):
            # What can be paired can't always be joined.
            if len(one.names()) + len(other.names()) > 14:
                continue
            both = joined(one, renamed(other))
            ground, places = paired(one, other)
            for (first, second), name in places.items():
                lefts = []
                for token, end in moves_of(both, [first, "y" + second]):
                    lefts.append(places[(end, second)] if token == 0 else places[(first, end[1:])])
                self.assertEqual(sorted(set(lefts)), ground.roads_from(name))

    def test_fourteen_places_and_more(self):
        for many, more in [(1, 14), (14, 1), (2, 7), (7, 2), (3, 4), (1, 1)]:
            ground, places = paired(Ground(rows_with(many, 0)), Ground(rows_with(more, 0)))
            self.assertEqual(len(ground.names()), many * more)
            self.assertEqual(len(places), many * more)
        for many, more in [(3, 5), (5, 3), (2, 8), (4, 4), (14, 2), (14, 14)]:
            self.assert_refused(
                TooMany, many * more, paired, Ground(rows_with(many, 0)), Ground(rows_with(more, 0)))

    def test_forty_roads_and_more(self):
        # Without roads of the second one each road of the first one is there as often as that has places.
        ground, places = paired(Ground(rows_with(5, 20)), read_ground("a:\nb:"))
        self.assertEqual(sum(len(ends) for name, ends in ground.rows()), 40)
        self.assert_refused(TooMany, 42, paired, Ground(rows_with(5, 21)), read_ground("a:\nb:"))
        self.assert_refused(TooMany, 50, paired, read_ground("a:\nb:"), Ground(rows_with(5, 25)))
        ground, places = paired(Ground(rows_with(14, 40)), read_ground("a:"))
        self.assertEqual(sum(len(ends) for name, ends in ground.rows()), 40)

    def test_roads_from_a_pair_to_itself_are_counted_once(self):
        # Of these forty roads the first fourteen lead from a place to itself, and so do those of the ring of one.
        rows = rows_with(14, 40)
        self.assertEqual(rows[0], ("a", ("a", "b", "c")))
        ground, places = paired(Ground(rows), read_ground("a: a"))
        self.assertEqual(ground.rows(), Ground(rows).rows())
        rows[0] = ("a", ("b", "c"))
        ground, places = paired(Ground(rows), read_ground("a: a"))
        self.assertEqual(sum(len(ends) for name, ends in ground.rows()), 40)
        rows[0] = ("a", ("b", "c", "e"))
        self.assert_refused(TooMany, 41, paired, Ground(rows), read_ground("a: a"))
        self.assert_refused(TooMany, 41, paired, read_ground("a: a"), Ground(rows))

    def test_places_ahead_of_roads(self):
        self.assert_refused(TooMany, 49, paired, Ground(rows_with(7, 40)), Ground(rows_with(7, 40)))
        self.assert_refused(TooMany, 15, paired, Ground(rows_with(5, 25)), Ground(rows_with(3, 9)))

    def test_a_ground_with_itself(self):
        for text in ("a:", "a: a", "a: b\nb:", "a: a b\nb: a", "a: b\nb: c\nc: a", "a: a b c\nb: c\nc:"):
            ground = read_ground(text)
            told, places = paired(ground, ground)
            again, same = paired(ground, read_ground(text))
            self.assertEqual((told.rows(), places), (again.rows(), same))
            self.assertEqual(show_ground(ground), text)
            for (one, other), name in places.items():
                self.assertEqual(worth_of(told, name).told(), worth_of(told, places[(other, one)]).told())


class OwnGrounds(AgainCase):
    def all_told(self, ground):
        told = []
        for other in (read_ground("yy: yy yx\nyx:"), turned_round(renamed(ground))):
            if len(ground.names()) + len(other.names()) <= 14:
                told.append(joined(ground, other).rows())
            if len(ground.names()) * len(other.names()) <= 9:
                both, places = paired(ground, other)
                told.append((both.rows(), places))
        return told

    def test_all_is_told_again(self):
        self.assert_told_again(
            self.all_told, itertools.chain(all_grounds(2), itertools.islice(all_grounds(3), 0, None, 50)))

    def test_what_was_told_is_changed(self):
        one, other = read_ground("a: b\nb:"), read_ground("c: c")
        expected = {("a", "c"): "a", ("b", "c"): "b"}
        for change in (dict.clear, lambda told: told.update(a="zz"), lambda told: told.pop(("a", "c"))):
            ground, places = paired(one, other)
            self.assertEqual((show_ground(ground), places), ("a: a b\nb: b", expected))
            change(places)
            ground.rows().clear()
            both = joined(one, other)
            both.rows().clear()
            both.names().append("zz")
            both.roads_from("a").clear()
            self.assertEqual(show_ground(both), "a: b\nb:\nc: c")
            self.assertEqual(show_ground(ground), "a: a b\nb: b")
        self.assertEqual((show_ground(one), show_ground(other)), ("a: b\nb:", "c: c"))

    def test_what_was_handed_in_is_changed(self):
        rows, more = [("a", ("b",)), ("b", ())], [("c", ("c",))]
        one, other = Ground(rows), Ground(more)
        both, pair = joined(one, other), paired(one, other)[0]
        rows.clear()
        more.append(("d", ()))
        self.assertEqual((show_ground(both), show_ground(pair)), ("a: b\nb:\nc: c", "a: a b\nb: b"))
        self.assertEqual(show_ground(joined(one, other)), "a: b\nb:\nc: c")


if __name__ == "__main__":
    unittest.main()
