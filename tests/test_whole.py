import ast
import importlib
import inspect
import itertools
import pathlib
import unittest

import ringheaps
from helper import (
    THREE_ROUND, TWO_ZEROS, WITH_RINGS, all_grounds, heaps_on, ladder, mixed_grounds, renamed, ring, stairs,
)
from ringheaps.desk import Desk
from ringheaps.drawers import player
from ringheaps.ground import Ground
from ringheaps.groundtext import read_ground, show_ground
from ringheaps.labels import labels_of, rounds_of, shows, worth_of
from ringheaps.made import joined, paired
from ringheaps.outcomes import heap_worth, outcome, outcomes_after
from ringheaps.parts import alike, least_ground, parting
from ringheaps.plainly import ring_in
from ringheaps.plays import played
from ringheaps.single import shows_single, table_of
from ringheaps.winners import most_moves
from ringheaps.worths import read_worth, sum_of

INTERFACE = {
    "words": ["is_whole(thing)", "is_name(thing)"],
    "ground": ["Ground(rows)", "Ground.names()", "Ground.roads_from(name)", "Ground.rows()"],
    "groundtext": ["show_ground(ground)", "read_ground(text)", "drawn(ground)"],
    "single": ["table_of(ground)", "shows_single(ground, told)", "best_moves(ground, name)"],
    "heaps": [
        "need_heap(ground, heap)", "moves_of(ground, heap)", "is_over(ground, heap)", "after(ground, heap, move)",
    ],
    "plays": ["played(ground, heap, first, second, most)", "walk(ground, heap, moves)"],
    "bits": ["summed(numbers)", "lacking(numbers)", "set_of(numbers)", "numbers_in(bits)", "set_turned(bits, number)"],
    "worths": [
        "Numbered(number)", "Endless(bits)", "Numbered.told()", "Numbered.text()", "Numbered.plus(other)",
        "Numbered.outcome()", "Numbered.is_endless()", "Endless.told()", "Endless.text()", "Endless.plus(other)",
        "Endless.outcome()", "Endless.is_endless()", "read_worth(text)", "sum_of(worths)",
    ],
    "labels": [
        "labels_of(ground)", "rounds_of(ground)", "worth_of(ground, name)", "shows(ground, told)",
        "open_road(ground, name)",
    ],
    "outcomes": ["heap_worth(ground, heap)", "outcome(ground, heap)", "outcomes_after(ground, heap)"],
    "winners": [
        "winning_moves(ground, heap)", "count_of(ground, heap)", "winner(ground, heap)", "most_moves(ground, heap)",
    ],
    "drawers": ["safe_moves(ground, heap)", "drawer(ground, heap)", "player(ground)"],
    "parts": ["alike(ground, one, other)", "parting(ground, one, other)", "least_ground(ground)"],
    "made": ["joined(one, other)", "paired(one, other)"],
    "plainly": ["ring_in(ground)", "plain_numbers(ground)"],
    "desk": ["Desk()", "Desk.say(line)"],
    "errors": [
        "NoGround(row)", "NoPlace(found)", "Twice(found)", "TooMany(found)", "NoText(row)", "NoHeap(found)",
        "NoMove(found)", "NotSo(found)", "Ring(places)", "NoWorth(found)", "NoLine(found)",
    ],
}


def small_grounds():
    texts = (TWO_ZEROS, THREE_ROUND, "a: b\nb: a c\nc:", "a: b\nb: c\nc: a d\nd:", "a: a b\nb:\nc: b c")
    yield from map(read_ground, texts)
    yield from map(Ground, (ladder(2), ladder(6), ladder(7), stairs(4), ring(3)))
    yield from all_grounds(1)
    yield from all_grounds(2)
    yield from itertools.islice(all_grounds(3), 0, None, 37)


def pairs_of_grounds():
    """Pairs of grounds that can be joined and paired."""
    for one, other in itertools.product(small_grounds(), repeat=2):
        many, more = len(one.names()), len(other.names())
        roads = sum(more * len(ends) for name, ends in one.rows())
        roads += sum(many * len(ends) for name, ends in other.rows())
        if many * more <= 14 and many + more <= 14 and roads <= 40:
            yield (one, other)


def outcome_by_moves(words):
    """Promise 63: the outcome by those of what the moves leave."""
    if "lost" in words:
        return "won"
    return "drawn" if "drawn" in words else "lost"


class Interface(unittest.TestCase):
    def test_names_and_arguments(self):
        for file, told in INTERFACE.items():
            module = importlib.import_module("ringheaps." + file)
            for text in told:
                name, arguments = text[:-1].split("(")
                thing = module
                for part in name.split("."):
                    thing = getattr(thing, part)
                found = list(inspect.signature(thing).parameters)
                expected = (["self"] if "." in name else []) + [part for part in arguments.split(", ") if part]
                self.assertEqual(found, expected, text)

    def test_nothing_is_imported_from_outside(self):
        for path in sorted(pathlib.Path(ringheaps.__file__).parent.glob("*.py")):
            for node in ast.walk(ast.parse(path.read_text())):
                self.assertNotIsInstance(node, ast.Import)
                if isinstance(node, ast.ImportFrom):
                    self.assertTrue(node.module.startswith("ringheaps."), (path, node.module))


class SideBySide(unittest.TestCase):
    def test_two_tokens_in_all_ways(self):
        seen = {"won": 0, "lost": 0, "drawn": 0}
        for one, other in pairs_of_grounds():
            both = joined(one, renamed(other))
            pair, places = paired(one, other)
            table = table_of(pair)
            least, firsts = least_ground(both)
            for first, second in itertools.product(one.names(), other.names()):
                heap = [first, "y" + second]
                word = outcome(both, heap)
                self.assertEqual(table[places[(first, second)]][0], word, (one.rows(), other.rows(), heap))
                total = worth_of(one, first).plus(worth_of(other, second))
                self.assertEqual(total.outcome(), word)
                self.assertEqual(heap_worth(both, heap).told(), total.told())
                self.assertEqual(worth_of(pair, places[(first, second)]).told(), total.told())
                words = [left for move, left in outcomes_after(both, heap)]
                self.assertEqual(outcome_by_moves(words), word)
                self.assertEqual(outcome(least, [firsts[place] for place in heap]), word)
                seen[word] += 1
        self.assertGreater(min(seen.values()), 300)

    def test_the_numbers_of_moves(self):
        """One token on the paired ground is won or lost within the moves that are told of the two tokens."""
        for one, other in itertools.islice(pairs_of_grounds(), 0, None, 2):
            both = joined(one, renamed(other))
            pair, places = paired(one, other)
            for (first, second), name in places.items():
                word, number = table_of(pair)[name]
                if word != "drawn":
                    self.assertLessEqual(number, most_moves(both, [first, "y" + second]))

    def test_places_are_alike_on_a_joined_ground_too(self):
        for one, other in itertools.islice(pairs_of_grounds(), 0, None, 3):
            both = joined(one, renamed(other))
            for first, second in itertools.product(one.names(), repeat=2):
                self.assertIs(alike(both, first, second), alike(one, first, second))
            for first, second in itertools.product(one.names(), other.names()):
                same = worth_of(one, first).told() == worth_of(other, second).told()
                self.assertIs(alike(both, first, "y" + second), same)
                self.assertEqual(parting(both, first, "y" + second) is None, same)

    def test_three_grounds_side_by_side(self):
        grounds = [read_ground(text) for text in ("a: b\nb: a c\nc:", WITH_RINGS, TWO_ZEROS)]
        both = joined(grounds[0], joined(renamed(grounds[1]), renamed(renamed(grounds[2]))))
        for heap in itertools.product(*[ground.names() for ground in grounds]):
            total = sum_of([worth_of(ground, place) for ground, place in zip(grounds, heap)])
            places = [heap[0], "y" + heap[1], "yy" + heap[2]]
            self.assertEqual(heap_worth(both, places).told(), total.told())
            self.assertEqual(outcome(both, places), total.outcome())


class ReadAgain(unittest.TestCase):
    def test_what_is_read_again_from_its_text_tells_the_same(self):
        for ground in itertools.chain(small_grounds(), mixed_grounds(25), mixed_grounds(20, 4)):
            again = read_ground(show_ground(ground))
            self.assertEqual(again.rows(), ground.rows())
            self.assertEqual((labels_of(again), rounds_of(again)), (labels_of(ground), rounds_of(ground)))
            self.assertEqual(table_of(again), table_of(ground))
            self.assertEqual(ring_in(again), ring_in(ground))
            least, places = least_ground(ground)
            self.assertEqual(least_ground(again)[0].rows(), least.rows())
            self.assertEqual(least_ground(again)[1], places)
            self.assertIs(shows(again, labels_of(ground)), True)
            self.assertIs(shows_single(again, table_of(ground)), True)
            for heap in list(heaps_on(ground))[::3]:
                self.assertEqual(outcomes_after(again, heap), outcomes_after(ground, heap))
                told = played(ground, heap, player(ground), player(ground), 40)
                self.assertEqual(played(again, heap, player(again), player(again), 40), told)

    def test_worths_are_read_again(self):
        for ground in itertools.chain(small_grounds(), mixed_grounds(25)):
            for name in ground.names():
                worth = worth_of(ground, name)
                self.assertEqual(read_worth(worth.text()).told(), worth.told())


class TwoPlayers(unittest.TestCase):
    def test_plays_of_two_players_end_as_the_outcome_tells(self):
        for ground in itertools.chain(small_grounds(), mixed_grounds(20), mixed_grounds(20, 4)):
            tell = player(ground)
            for heap in list(heaps_on(ground))[::2]:
                word = outcome(ground, heap)
                made, end = played(ground, heap, tell, tell, 150)
                self.assertEqual(end, {"won": "first", "lost": "second", "drawn": "open"}[word])
                if word != "drawn":
                    self.assertLessEqual(len(made), most_moves(ground, heap))

    def test_the_desk_plays_alike(self):
        for ground in itertools.islice(mixed_grounds(40, 3), 0, None, 4):
            desk = Desk()
            desk.say("ground g " + show_ground(ground).replace("\n", "; "))
            for number, heap in enumerate(list(heaps_on(ground))[::4]):
                name = "h" * (number + 1)
                desk.say(" ".join(["heap", name, "g"] + heap))
                made, end = played(ground, heap, player(ground), player(ground), 20)
                for move in made:
                    desk.say("play " + name)
                self.assertEqual(desk.say("tokens " + name), " ".join(places_behind(heap, made)) or "-")


def places_behind(heap, made):
    places = list(heap)
    for token, place in made:
        places[token] = place
    return places


if __name__ == "__main__":
    unittest.main()
