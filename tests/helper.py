"""What the tests share: things of all kinds, grounds of all kinds, and how a refusal is looked at."""

import copy
import itertools
import unittest

from ringheaps.errors import HeapError, NoHeap, NoPlace, TooMany
from ringheaps.ground import Ground
from ringheaps.groundtext import read_ground
from ringheaps.heaps import moves_of
from ringheaps.outcomes import outcome

NO_NAMES = [
    None, True, False, 0, 1, -1, 10 ** 99,
    "", " ", "\n", "a ", " a", "a\n", "\na", "a b", "A", "aB", "a1", "1", "a_b", "a-b", "a:", "{a}",
    "`", "abcdefghi", "abcdefghij", "z" * 2000,
    [], ["a"], (), ("a",), ("a", ()), {}, {"a": "a"}, [[]], ([],), {"a": []},
]

LETTERS = "abcdefghijklmnopqrstuvwxyz"

# Each one: a refusal, its field, and what is no heap of a ground that has a place a, and none called zz.
NO_HEAPS = [(NoHeap, thing, thing) for thing in NO_NAMES + ["a", "a a", ("a", "a")] if not isinstance(thing, list)] + [
    (TooMany, 9, ["a"] * 9), (TooMany, 10, ["a"] * 9 + [None]), (TooMany, 12, [None] * 12), (TooMany, 99, ["zz"] * 99),
    (NoPlace, "zz", ["zz"]), (NoPlace, "zz", ["a", "zz", None]), (NoPlace, None, ["a", None, "zz"]),
    (NoPlace, "zz", ["a"] * 7 + ["zz"]), (NoPlace, "Z", ["Z"] * 8), (NoPlace, ["a"], ["a", ["a"]]),
    (NoPlace, {"a": "a"}, [{"a": "a"}, []]), (NoPlace, [], [[]]), (NoPlace, {}, ["a", {}]), (NoPlace, True, [True]),
    (NoPlace, 0, [0]), (NoPlace, ("a",), [("a",)]), (NoPlace, "", ["", "a"]), (NoPlace, "a ", ["a "]),
]


def rows_with(places, roads):
    """Rows of so many places and roads: first one from each place to itself, then one to the next, and so on."""
    ends = [[] for letter in LETTERS[:places]]
    for number in range(roads):
        place = number % places
        ends[place].append(LETTERS[(place + number // places) % places])
    return [(LETTERS[place], tuple(ends[place])) for place in range(places)]


def in_order(rows):
    """The rows with all names to which roads lead in the order of the places."""
    order = [name for name, ends in rows]
    return [(name, tuple(sorted(ends, key=order.index))) for name, ends in rows]


def ladder(many):
    """Rows in which a road leads from each place to the next one, and none from the last one."""
    return [(LETTERS[place], tuple(LETTERS[place + 1:many][:1])) for place in range(many)]


def stairs(many):
    """Rows in which roads lead from each place to all places ahead of it."""
    return [(LETTERS[place], tuple(LETTERS[:place])) for place in range(many)]


def ring(many):
    """Rows in which a road leads from each place to the next one, and from the last one to the first."""
    return [(LETTERS[place], (LETTERS[(place + 1) % many],)) for place in range(many)]


ROWS_OF_GROUNDS = [
    [("a", ())],
    [("a", ("a",))],
    [("abcdefgh", ("abcdefgh",))],
    [("a", ("a", "b")), ("b", ())],
    [("b", ("a", "b")), ("a", ("a", "b"))],
    [("z", ("m", "a", "z")), ("a", ("z", "m")), ("m", ("a",))],
    [("c", ("b",)), ("b", ("a",)), ("a", ("c",))],
    [("one", ("three", "two")), ("two", ("three",)), ("three", ()), ("four", ("one", "four"))],
    [("a", ("aa", "aaa")), ("aaa", ("a",)), ("aa", ("aaa", "aa", "a"))],
    rows_with(14, 0),
    rows_with(14, 14),
    rows_with(14, 39),
    rows_with(14, 40),
    rows_with(7, 40),
    rows_with(6, 36),
    ladder(5),
    ladder(14),
    stairs(9),
    ring(2),
    ring(14),
]


# The numbers and steps: q 0 and 0, p 0 and 1, r 1 and 2, x 1 and 2.
TWO_ZEROS = "x: p q\np: r\nr: q\nq:"
# The numbers and steps: o 0 and 0, i 1 and 1, j 2 and 2; e is endless with 0 and 2, f with 1, g without numbers.
WITH_RINGS = "o:\ni: o\nj: o i\ne: o j e\nf: i f\ng: g"
# s, t and u lead round among one another; s leads to the number 0, too, and t to 1.
THREE_ROUND = "o:\ni: o\nj: o i\ns: o t u\nt: s u i\nu: t s"


def all_grounds(places):
    """Every ground of so many places; there are 2 ** (places * places)."""
    pairs = [(one, other) for one in LETTERS[:places] for other in LETTERS[:places]]
    for bits in range(2 ** len(pairs)):
        roads = [pair for number, pair in enumerate(pairs) if bits >> number & 1]
        yield Ground([(name, tuple(end for start, end in roads if start == name)) for name in LETTERS[:places]])


def mixed_grounds(many, stair=0):
    """So many grounds of 4 to 14 places, the same ones each time, with few roads and with many.

    The first places, as many as stair tells, are those of stairs.
    """
    state = 1
    for number in range(many):
        places = 4 + stair + number % (11 - stair)
        rows = stairs(stair)
        ends = [[] for letter in LETTERS[stair:places]]
        for step in range(min(places + number % 27, 40 - stair * (stair - 1) // 2)):
            state = (state * 1103515245 + 12345) % 2 ** 31
            start = state // 2 ** 8 % len(ends)
            end = LETTERS[state // 2 ** 16 % places]
            if end not in ends[start]:
                ends[start].append(end)
        yield Ground(rows + [(LETTERS[stair + start], tuple(ends[start])) for start in range(len(ends))])


def grounds_for_plays():
    yield from map(read_ground, (TWO_ZEROS, WITH_RINGS, THREE_ROUND, "a: b\nb: a c\nc:", "a: b\nb: c\nc: a d\nd:"))
    yield from map(Ground, (rows_with(14, 0), rows_with(14, 40), ladder(14), stairs(9), ring(1), ring(14)))
    yield from itertools.islice(all_grounds(3), 0, None, 23)
    yield from mixed_grounds(22)
    yield from mixed_grounds(22, 4)


def heaps_on(ground):
    """Heaps of none to eight tokens, with several on one place among them."""
    names = ground.names()
    for many in range(9):
        yield [names[number * 5 % len(names)] for number in range(many)]
        yield [names[number // 3 % len(names)] for number in range(many)]
        yield [names[-1]] * many


def all_heaps(ground, tokens):
    """Every heap of so many tokens."""
    return [list(heap) for heap in itertools.product(ground.names(), repeat=tokens)]


def heaps_of(wanted, ground):
    """Heaps of none to eight tokens that have this outcome."""
    heaps = itertools.chain(heaps_on(ground), all_heaps(ground, 1), all_heaps(ground, 2)[::3])
    return [heap for heap in heaps if outcome(ground, heap) == wanted]


def outcomes_going_back(ground, tokens):
    """By promise 3 alone, back from the heaps without moves: the outcomes of all heaps of so many tokens, by tuples."""
    roads = dict(ground.rows())
    ahead = {heap: [] for heap in itertools.product(ground.names(), repeat=tokens)}
    unsettled = {}
    for heap in ahead:
        ends = [heap[:token] + (end,) + heap[token + 1:] for token, place in enumerate(heap) for end in roads[place]]
        unsettled[heap] = len(ends)
        for end in ends:
            ahead[end].append(heap)
    settled = [heap for heap in ahead if unsettled[heap] == 0]
    outcome = dict.fromkeys(ahead, "drawn")
    outcome.update((heap, "lost") for heap in settled)
    for heap in settled:
        for other in ahead[heap]:
            unsettled[other] -= 1
            if outcome[other] == "drawn" and (outcome[heap] == "lost" or unsettled[other] == 0):
                outcome[other] = "won" if outcome[heap] == "lost" else "lost"
                settled.append(other)
    return outcome


def without_rings(ground):
    """The ground with those roads alone that lead down by a key, which each place has to itself."""
    names = ground.names()
    key = {name: (number * 5 + 3) % 17 for number, name in enumerate(names)}
    return Ground([(name, tuple(end for end in ends if key[end] < key[name])) for name, ends in ground.rows()])


def renamed(ground):
    """The ground with names that no other ground has here."""
    return Ground([("y" + name[:7], tuple("y" + end[:7] for end in ends)) for name, ends in ground.rows()])


def turned_round(ground):
    """The ground of the same names in the same order in which each road leads the other way."""
    rows = ground.rows()
    return Ground([(name, tuple(start for start, ends in rows if name in ends)) for name, ends in rows])


def with_other_names(table):
    """The table with a name less, with one more, and with another thing for a name."""
    for name in table:
        less = {other: entry for other, entry in table.items() if other != name}
        yield less
        for key in ("zz", "", None, 0, True, (), (name,), name.upper()):
            yield {**less, key: table[name]}
            yield {**table, key: table[name]}


class Player:
    """Tells moves by a rule of the heap and of how often it was asked, and keeps the heaps that it was told."""

    def __init__(self, ground, rule):
        self.ground = ground
        self.rule = rule
        self.asked = []

    def tell(self, heap):
        self.asked.append(list(heap))
        return self.rule(moves_of(self.ground, heap), len(self.asked) - 1)


def first_move(moves, asked):
    return moves[0]


def last_move(moves, asked):
    return moves[-1]


def by_turns(moves, asked):
    return moves[asked % len(moves)]


def by_leaps(moves, asked):
    return moves[asked * asked * 7 % 101 % len(moves)]


RULES = [first_move, last_move, by_turns, by_leaps]


class ShownCase(unittest.TestCase):
    def assert_answer(self, answer, ask, ground, thing):
        """ask(ground, thing) is this very truth, and the thing stays as it is."""
        before = copy.deepcopy(thing)
        self.assertIs(ask(ground, thing), answer, (ground.rows(), thing))
        self.assertEqual(thing, before)


class AgainCase(unittest.TestCase):
    def assert_told_again(self, all_told, grounds):
        """all_told(ground) is the same again behind a ground of other roads, and of a ground made alike."""
        for ground in grounds:
            other = turned_round(ground)
            told = (all_told(ground), all_told(other))
            self.assertEqual((all_told(ground), all_told(other)), told)
            alike = Ground([(name, tuple(reversed(ends))) for name, ends in ground.rows()])
            self.assertEqual(all_told(alike), told[0])


class RefusalCase(unittest.TestCase):
    def assert_refused(self, kind, field, call, *args):
        """call(*args) raises just this class, its field is equal and of the same kind, and args stay as they are."""
        handed = [arg for arg in args if not isinstance(arg, Ground) and not callable(arg)]
        before = copy.deepcopy(handed)
        with self.assertRaises(HeapError) as caught:
            call(*args)
        error = caught.exception
        self.assertIs(type(error), kind)
        found = next(getattr(error, name) for name in ("row", "places", "found") if hasattr(error, name))
        self.assertEqual(found, field)
        # A truth is equal to a number, but not written like it.
        self.assertEqual(repr(found), repr(field))
        self.assertEqual(handed, before)
