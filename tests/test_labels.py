import itertools
import unittest

from helper import (
    LETTERS, NO_NAMES, ROWS_OF_GROUNDS, RefusalCase, ShownCase, all_grounds, ladder, mixed_grounds, ring, rows_with,
    stairs, turned_round, with_other_names,
)
from ringheaps.errors import NoPlace
from ringheaps.ground import Ground
from ringheaps.groundtext import read_ground
from ringheaps.labels import labels_of, open_road, rounds_of, shows, worth_of
from ringheaps.single import table_of
from ringheaps.worths import Endless, Numbered

# Each one: a text of a ground, its labels, its rounds, and the open roads of its endless places.
BY_HAND = [
    ("a:", {"a": ("number", 0, 0)}, [["a"]], {}),
    ("a: a", {"a": ("endless", 0)}, [], {"a": (0, "a")}),
    ("a: a b\nb:", {"a": ("endless", 1), "b": ("number", 0, 0)}, [["b"]], {"a": (1, "a")}),
    ("a: b\nb: a", {"a": ("endless", 0), "b": ("endless", 0)}, [], {"a": (0, "b"), "b": (0, "a")}),
    ("a: b\nb:", {"a": ("number", 1, 1), "b": ("number", 0, 0)}, [["b"], ["a"]], {}),
    (
        # A ladder: a gets 0 behind b, whose road leads back to 0.
        "a: b\nb: c\nc:",
        {"a": ("number", 0, 1), "b": ("number", 1, 2), "c": ("number", 0, 0)},
        [["c"], ["a"], ["b"]], {},
    ),
    (
        # A ring with a way out, all of it numbered.
        "a: b\nb: a c\nc:",
        {"a": ("number", 0, 1), "b": ("number", 1, 2), "c": ("number", 0, 0)},
        [["c"], ["a"], ["b"]], {},
    ),
    (
        "a: b\nb: c\nc: a d\nd:",
        {"a": ("number", 1, 2), "b": ("number", 0, 1), "c": ("number", 2, 3), "d": ("number", 0, 0)},
        [["d"], ["b"], ["a"], ["c"]], {},
    ),
    (
        # A numbered place with a road to an endless one.
        "a: b\nb: b c\nc:",
        {"a": ("number", 0, 1), "b": ("endless", 1), "c": ("number", 0, 0)},
        [["c"], ["a"]], {"b": (1, "b")},
    ),
    (
        # Sets with a gap, and open roads of several numbers.
        "a:\nb: a\nc: a b\nx: x b\ny: y a c\nz: a x y",
        {
            "a": ("number", 0, 0), "b": ("number", 1, 1), "c": ("number", 2, 2),
            "x": ("endless", 2), "y": ("endless", 5), "z": ("endless", 1),
        },
        [["a"], ["b"], ["c"]], {"x": (0, "x"), "y": (1, "y"), "z": (1, "y")},
    ),
    (
        # The first endless place behind e has its least number, so the open road leads to the next one.
        "a:\nb: a\nf: f b\ne: f e a",
        {"a": ("number", 0, 0), "b": ("number", 1, 1), "f": ("endless", 2), "e": ("endless", 1)},
        [["a"], ["b"]], {"f": (0, "f"), "e": (1, "e")},
    ),
    (
        # e gets 1, for f leads back to 1.
        "a:\nb: a\nf: f b\ne: f a",
        {"a": ("number", 0, 0), "b": ("number", 1, 1), "f": ("endless", 2), "e": ("number", 1, 2)},
        [["a"], ["b"], ["e"]], {"f": (0, "f")},
    ),
    (
        # Several places in one round, in the order of the places and not in that of the letters.
        "z: y\nc:\ny: c b\nb:\na: y\nx: c",
        {
            "z": ("number", 0, 1), "c": ("number", 0, 0), "y": ("number", 1, 2),
            "b": ("number", 0, 0), "a": ("number", 0, 1), "x": ("number", 1, 2),
        },
        [["c", "b"], ["z", "a"], ["y", "x"]], {},
    ),
    (
        # In a round a number is given at once: what comes of it waits for the next one.
        "e:\nd: e\nc: d\nb: c\na: b",
        {
            "e": ("number", 0, 0), "d": ("number", 1, 3), "c": ("number", 0, 1), "b": ("number", 1, 3),
            "a": ("number", 0, 2),
        },
        [["e"], ["c"], ["a"], ["d", "b"]], {},
    ),
    (
        # p and q lead to one another, and each to r, which leads back to 0; so each is bare to the other one.
        "o:\nr: o\np: q r\nq: p r",
        {"o": ("number", 0, 0), "r": ("number", 1, 1), "p": ("endless", 2), "q": ("endless", 2)},
        [["o"], ["r"]], {"p": (0, "q"), "q": (0, "p")},
    ),
]


def many_grounds():
    for rows in ROWS_OF_GROUNDS:
        yield Ground(rows)
    for places in (1, 2, 3):
        yield from all_grounds(places)
    yield from mixed_grounds(150)
    yield from mixed_grounds(100, 4)


def rounds_again(ground):
    """Promise 52 once more, word by word: a list of tuples of a number and the places of a round."""
    roads = dict(ground.rows())
    number_of = {}
    rounds = []
    for number in range(16):
        before = len(rounds)
        while True:
            earlier = dict(number_of)
            got = []
            for name in ground.names():
                met = {earlier[end] for end in roads[name] if end in earlier}
                if name in earlier or not set(range(number)) <= met or number in met:
                    continue
                others = [end for end in roads[name] if end not in earlier]
                if all(number in [earlier.get(back) for back in roads[end]] for end in others):
                    got.append(name)
            if not got:
                break
            number_of.update((name, number) for name in got)
            rounds.append((number, got))
        if len(rounds) == before:
            break
    return rounds


def shows_again(ground, labels):
    """Promise 53 once more, of a dict of the places' names with tuples of the form."""
    roads = dict(ground.rows())
    numbered = {name: label[1:] for name, label in labels.items() if label[0] == "number"}
    bits_of = {name: label[1] for name, label in labels.items() if label[0] == "endless"}
    for name in ground.names():
        met = {numbered[end][0] for end in roads[name] if end in numbered}
        least = min(set(range(20)) - met)
        if name in bits_of:
            fits = bits_of[name] == sum(2 ** number for number in met)
            fits = fits and any(not bits_of[end] >> least & 1 for end in roads[name] if end in bits_of)
        else:
            number, step = numbered[name]
            fits = number == least
            for end in roads[name]:
                if end in numbered and numbered[end][0] < number:
                    fits = fits and numbered[end][1] < step
                if end not in numbered or numbered[end][0] > number:
                    backs = [numbered[back] for back in roads[end] if back in numbered]
                    fits = fits and any(back[0] == number and back[1] < step for back in backs)
        if not fits:
            return False
    return True


def outcomes_beside_stairs(ground, many):
    """By promise 3 alone: how it is with a token on each place beside one on each of so many stairs."""
    roads = {}
    for name, ends in ground.rows():
        for stair in range(many):
            pairs = [(end, stair) for end in ends] + [(name, lower) for lower in range(stair)]
            roads[(name, stair)] = pairs
    outcome = {}
    while True:
        more = {}
        for pair, ends in roads.items():
            words = [outcome.get(end, "drawn") for end in ends]
            if pair not in outcome and "lost" in words:
                more[pair] = "won"
            elif pair not in outcome and set(words) <= {"won"}:
                more[pair] = "lost"
        if not more:
            return {pair: outcome.get(pair, "drawn") for pair in roads}
        outcome.update(more)


class FoundLabels(unittest.TestCase):
    def test_labels_by_hand(self):
        for text, labels, rounds, roads in BY_HAND:
            ground = read_ground(text)
            self.assertEqual(labels_of(ground), labels, text)
            self.assertEqual(rounds_of(ground), rounds, text)

    def test_no_roads(self):
        for many in (1, 2, 14):
            ground = Ground(rows_with(many, 0))
            self.assertEqual(labels_of(ground), {name: ("number", 0, 0) for name in LETTERS[:many]})
            self.assertEqual(rounds_of(ground), [list(LETTERS[:many])])

    def test_ladders(self):
        for many in range(1, 15):
            ground = Ground(ladder(many))
            zeros = (many + 1) // 2
            labels = {}
            for place in range(many):
                left = many - 1 - place
                labels[LETTERS[place]] = ("number", 0, left // 2) if left % 2 == 0 else ("number", 1, zeros)
            self.assertEqual(labels_of(ground), labels)
            rounds = [[LETTERS[many - 1 - 2 * step]] for step in range(zeros)]
            ones = [name for name in LETTERS[:many] if labels[name][1] == 1]
            self.assertEqual(rounds_of(ground), rounds + ([ones] if ones else []))

    def test_stairs(self):
        for many in range(1, 10):
            ground = Ground(stairs(many))
            self.assertEqual(labels_of(ground), {LETTERS[place]: ("number", place, place) for place in range(many)})
            self.assertEqual(rounds_of(ground), [[name] for name in LETTERS[:many]])

    def test_rings(self):
        for many in range(1, 15):
            ground = Ground(ring(many))
            self.assertEqual(labels_of(ground), {name: ("endless", 0) for name in LETTERS[:many]})
            self.assertEqual(rounds_of(ground), [])

    def test_a_place_with_a_road_to_itself_never_gets_a_number(self):
        for ground in many_grounds():
            labels = labels_of(ground)
            for name, ends in ground.rows():
                if name in ends:
                    self.assertEqual(labels[name][0], "endless")

    def test_rounds_word_by_word(self):
        several = 0
        for ground in many_grounds():
            rounds = rounds_again(ground)
            several += any(len(names) > 1 for number, names in rounds[1:])
            self.assertEqual(rounds_of(ground), [names for number, names in rounds])
            labels = labels_of(ground)
            self.assertEqual(sorted(labels), sorted(ground.names()))
            for step, (number, names) in enumerate(rounds):
                for name in names:
                    self.assertEqual(labels[name], ("number", number, step))
            for name in ground.names():
                if all(name not in names for number, names in rounds):
                    numbers = {labels[end][1] for end in ground.roads_from(name) if labels[end][0] == "number"}
                    self.assertEqual(labels[name], ("endless", sum(2 ** number for number in numbers)))
        self.assertGreater(several, 20)

    def test_labels_tell_the_outcomes_beside_stairs(self):
        grounds = itertools.chain(
            map(Ground, ROWS_OF_GROUNDS), itertools.islice(all_grounds(3), 0, None, 5), mixed_grounds(80),
            mixed_grounds(80, 4))
        for ground in grounds:
            labels = labels_of(ground)
            for (name, stair), outcome in outcomes_beside_stairs(ground, 10).items():
                label = labels[name]
                if label[0] == "number":
                    expected = "lost" if label[1] == stair else "won"
                else:
                    expected = "won" if label[1] >> stair & 1 else "drawn"
                self.assertEqual(outcome, expected, (ground.rows(), name, stair))

    def test_one_token_alone_has_the_outcome_of_its_worth(self):
        for ground in many_grounds():
            table = table_of(ground)
            for name in ground.names():
                self.assertEqual(worth_of(ground, name).outcome(), table[name][0])

    def test_kinds_of_what_is_told(self):
        for ground in mixed_grounds(30):
            labels = labels_of(ground)
            self.assertIs(type(labels), dict)
            for label in labels.values():
                self.assertIs(type(label), tuple)
                self.assertEqual([type(part) for part in label], [str, int, int] if len(label) == 3 else [str, int])
            self.assertIs(type(rounds_of(ground)), list)
            for names in rounds_of(ground):
                self.assertIs(type(names), list)


class WorthsOfPlaces(RefusalCase):
    def test_the_worth_of_the_label(self):
        for ground in many_grounds():
            labels = labels_of(ground)
            for name in ground.names():
                worth = worth_of(ground, name)
                self.assertIs(type(worth), Numbered if labels[name][0] == "number" else Endless)
                self.assertEqual(worth.told(), labels[name][:2])

    def test_what_is_no_place(self):
        for ground in (Ground([("b", ())]), Ground(ring(3)), Ground(rows_with(14, 40))):
            for thing in NO_NAMES + ["o", "zz", "hgfedcba", ["b"], {"b": "b"}, ("b",)]:
                self.assert_refused(NoPlace, thing, worth_of, ground, thing)
                self.assert_refused(NoPlace, thing, open_road, ground, thing)


class OpenRoads(unittest.TestCase):
    def test_open_roads_by_hand(self):
        for text, labels, rounds, roads in BY_HAND:
            ground = read_ground(text)
            for name in ground.names():
                self.assertEqual(open_road(ground, name), roads.get(name), (text, name))

    def test_open_roads_by_the_labels(self):
        for ground in many_grounds():
            labels = labels_of(ground)
            for name in ground.names():
                if labels[name][0] == "number":
                    self.assertIs(open_road(ground, name), None)
                    continue
                least = min(number for number in range(17) if not labels[name][1] >> number & 1)
                ends = [end for end in ground.roads_from(name) if labels[end][0] == "endless"]
                ends = [end for end in ends if not labels[end][1] >> least & 1]
                road = open_road(ground, name)
                self.assertIs(type(road), tuple)
                self.assertEqual(road, (least, ends[0]))


# Each one: a text of a ground, and labels that break just one condition of promise 53.
BREAK_ONE = [
    # The number is not the least lacking one.
    ("a:", {"a": ("number", 1, 0)}),
    ("a:\nb: a", {"a": ("number", 0, 0), "b": ("number", 2, 1)}),
    ("a:\nb: a\nc: a b", {"a": ("number", 0, 0), "b": ("number", 1, 1), "c": ("number", 3, 2)}),
    # A road to a lesser number leads to no lesser step.
    ("a:\nb: a", {"a": ("number", 0, 0), "b": ("number", 1, 0)}),
    ("a:\nb: a", {"a": ("number", 0, 1), "b": ("number", 1, 0)}),
    ("a:\nb: a\nc: a b", {"a": ("number", 0, 0), "b": ("number", 1, 2), "c": ("number", 2, 2)}),
    # Behind a road to a greater number none leads back to the same number with a lesser step.
    ("a: b\nb: c\nc:", {"a": ("number", 0, 0), "b": ("number", 1, 2), "c": ("number", 0, 0)}),
    ("a: b\nb: c\nc:", {"a": ("number", 0, 0), "b": ("number", 1, 2), "c": ("number", 0, 1)}),
    # Nor behind a road to an endless place: by the step, by the number, or at all.
    ("a: b\nb: b c\nc:", {"a": ("number", 0, 0), "b": ("endless", 1), "c": ("number", 0, 0)}),
    ("a: b\nb: a b", {"a": ("number", 0, 0), "b": ("endless", 1)}),
    ("a: b\nb: b", {"a": ("number", 0, 3), "b": ("endless", 0)}),
    (
        "a: d\nb:\nc: b\nd: c d",
        {"a": ("number", 0, 9), "b": ("number", 0, 0), "c": ("number", 1, 1), "d": ("endless", 2)},
    ),
    # The set is not that of the numbers behind it.
    ("a: a b\nb:", {"a": ("endless", 0), "b": ("number", 0, 0)}),
    ("a: a b\nb:", {"a": ("endless", 5), "b": ("number", 0, 0)}),
    ("a: a", {"a": ("endless", 2)}),
    # There is no open road: no endless place behind it, or none but one that has the number.
    ("a:", {"a": ("endless", 0)}),
    ("a: b\nb:", {"a": ("endless", 1), "b": ("number", 0, 0)}),
    (
        "a:\nb: a\nf: f b\ne: f a",
        {"a": ("number", 0, 0), "b": ("number", 1, 1), "f": ("endless", 2), "e": ("endless", 1)},
    ),
]


def near_numbers(number):
    return [number - 1, number + 1, -1, 16, 65536, 10 ** 99, -10 ** 99]


def odd_things(number):
    return [True, False, None, "", str(number), "number", [], [number], (), (number,), {}, {number: number}]


def misshapen(label):
    """What stands for a label and is none, whatever the others are."""
    words = ("Number", "numbered", "Endless", "", None, 0, True, [], ["number"], {}, ())
    others = [(word,) + label[1:] for word in words]
    for place in range(1, len(label)):
        for thing in odd_things(label[place]) + [-1, -10 ** 99]:
            others.append(label[:place] + (thing,) + label[place + 1:])
    others += [label + (thing,) for thing in (0, 1, None, label)]
    others += [label[:place] + label[place + 1:] for place in range(1, len(label))]
    others += [list(label), (label,), (), label[::-1], dict(enumerate(label)), " ".join(map(str, label))]
    others += [None, True, False, 0, 1, "number", "endless", "", [], {}, [label], ("number",), ("endless",)]
    others += [("number", 0), ("endless", 0, 0), ("number", label[1]), ("endless", label[1], 0), ("endless", None)]
    return others


class LabelsThatShowThemselves(ShownCase):
    def test_the_found_labels_show_themselves(self):
        for ground in many_grounds():
            self.assert_answer(True, shows, ground, labels_of(ground))

    def test_the_order_of_the_names_is_free(self):
        for text, labels, rounds, roads in BY_HAND:
            self.assert_answer(True, shows, read_ground(text), dict(reversed(list(labels.items()))))

    def test_steps_that_rise_otherwise(self):
        for ground in mixed_grounds(60):
            labels = labels_of(ground)
            for rise in (lambda step: step + 1, lambda step: step * 3 + 7, lambda step: 10 ** 98 * (step + 1)):
                told = {}
                for name, label in labels.items():
                    told[name] = label if label[0] == "endless" else label[:2] + (rise(label[2]),)
                self.assert_answer(True, shows, ground, told)

    def test_labels_that_break_one_condition(self):
        for text, labels in BREAK_ONE:
            self.assert_answer(False, shows, read_ground(text), labels)
            self.assertIs(shows_again(read_ground(text), labels), False)

    def test_one_thing_put_otherwise(self):
        for text, labels, rounds, roads in BY_HAND:
            ground = read_ground(text)
            for name, label in labels.items():
                near = [("number", number, 0) for number in range(5)] + [("endless", bits) for bits in range(9)]
                near += [(label[0], number) + label[2:] for number in near_numbers(label[1]) if 0 <= number <= 15]
                near += [label[:2] + (step,) for step in list(range(6)) + [10 ** 99] if len(label) == 3]
                near += [("endless", 65535), ("endless", 65534), ("number", 15, 0), ("number", 14, 3)]
                for other in near:
                    told = {**labels, name: other}
                    self.assert_answer(shows_again(ground, told), shows, ground, told)
                    if other[:2] != label[:2]:
                        self.assertIs(shows(ground, told), False)

    def test_what_is_no_label(self):
        for text, labels, rounds, roads in BY_HAND:
            ground = read_ground(text)
            for name, label in labels.items():
                for other in misshapen(label):
                    self.assert_answer(False, shows, ground, {**labels, name: other})
                for number in near_numbers(label[1]):
                    self.assert_answer(False, shows, ground, {**labels, name: (label[0], number) + label[2:]})

    def test_a_name_more_or_less(self):
        for text, labels, rounds, roads in BY_HAND:
            for thing in with_other_names(labels):
                self.assert_answer(False, shows, read_ground(text), thing)

    def test_what_is_no_dict(self):
        for ground in (Ground([("a", ())]), Ground(ring(3)), Ground(rows_with(14, 40))):
            labels = labels_of(ground)
            things = [list(labels), list(labels.items()), tuple(labels.items()), list(labels.values()), labels["a"]]
            for thing in NO_NAMES + things + ["a", ("number", 0, 0), ("endless", 0)]:
                self.assert_answer(False, shows, ground, thing)

    def test_all_labels_of_one_and_two_places(self):
        some = [("number", number, step) for number in range(3) for step in range(3)]
        some += [("endless", bits) for bits in range(8)]
        for ground in itertools.chain(all_grounds(1), all_grounds(2)):
            self.compare_all(ground, some)

    def test_all_labels_of_three_places(self):
        some = [("number", number, step) for number in range(3) for step in range(3)]
        some += [("endless", bits) for bits in range(5)]
        for ground in itertools.islice(all_grounds(3), 0, None, 23):
            self.compare_all(ground, some)

    def compare_all(self, ground, some):
        worths = {name: label[:2] for name, label in labels_of(ground).items()}
        found = 0
        for told in itertools.product(some, repeat=len(worths)):
            thing = dict(zip(ground.names(), told))
            answer = shows(ground, thing)
            self.assertIs(answer, shows_again(ground, thing), (ground.rows(), thing))
            if answer:
                found += 1
                self.assertEqual({name: label[:2] for name, label in thing.items()}, worths)
        self.assertGreater(found, 0)

    def test_the_labels_of_another_ground(self):
        for ground in mixed_grounds(60):
            other = turned_round(ground)
            self.assert_answer(shows_again(ground, labels_of(other)), shows, ground, labels_of(other))


class OwnLabels(RefusalCase):
    def test_what_was_told_is_changed(self):
        for text, labels, rounds, roads in BY_HAND:
            ground = read_ground(text)
            for change in (dict.clear, lambda told: told.update(a=("number", 7, 7)), lambda told: told.update(zz=0)):
                told = labels_of(ground)
                change(told)
                self.assertEqual(labels_of(ground), labels)
                self.assertIs(shows(ground, labels), True)
            for change in (list.clear, list.reverse, lambda told: told.append("zz")):
                told = rounds_of(ground)
                for names in told:
                    change(names)
                change(told)
                self.assertEqual(rounds_of(ground), rounds)
            for name in ground.names():
                self.assertEqual(worth_of(ground, name).told(), labels[name][:2])
                self.assertEqual(open_road(ground, name), roads.get(name))
            self.assertIsNot(labels_of(ground), labels_of(ground))

    def test_what_was_handed_in_is_changed(self):
        rows = [("a", ("a", "b")), ("b", ())]
        ground = Ground(rows)
        handed = labels_of(ground)
        self.assertIs(shows(ground, handed), True)
        rows.clear()
        handed["b"] = ("number", 1, 0)
        self.assertIs(shows(ground, handed), False)
        handed["b"] = ("number", 0, 5)
        self.assertIs(shows(ground, handed), True)
        self.assertEqual(labels_of(ground), {"a": ("endless", 1), "b": ("number", 0, 0)})
        thing = ["a"]
        self.assert_refused(NoPlace, ["a"], worth_of, ground, thing)
        self.assert_refused(NoPlace, ["a"], open_road, ground, thing)
        thing.clear()
        self.assertEqual(open_road(ground, "a"), (1, "a"))

    def all_told(self, ground):
        names = ground.names()
        worths = [worth_of(ground, name).told() for name in names]
        return (labels_of(ground), rounds_of(ground), worths, [open_road(ground, name) for name in names])

    def test_a_ground_of_other_roads_is_asked_between(self):
        for ground in itertools.chain(mixed_grounds(40), all_grounds(2)):
            other = turned_round(ground)
            told = (self.all_told(ground), self.all_told(other))
            for again in range(2):
                self.assertEqual((self.all_told(ground), self.all_told(other)), told)
                self.assertIs(shows(ground, told[0][0]), True)
                self.assertIs(shows(other, told[1][0]), True)

    def test_a_ground_made_alike_tells_the_same(self):
        for ground in mixed_grounds(40):
            alike = Ground([(name, tuple(reversed(ends))) for name, ends in ground.rows()])
            self.assertEqual(self.all_told(alike), self.all_told(ground))


if __name__ == "__main__":
    unittest.main()
