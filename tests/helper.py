"""What the tests share: things of all kinds, grounds of all kinds, and how a refusal is looked at."""

import copy
import unittest

from ringheaps.errors import HeapError
from ringheaps.ground import Ground

NO_NAMES = [
    None, True, False, 0, 1, -1, 10 ** 99,
    "", " ", "\n", "a ", " a", "a\n", "\na", "a b", "A", "aB", "a1", "1", "a_b", "a-b", "a:", "{a}",
    "`", "abcdefghi", "abcdefghij", "z" * 2000,
    [], ["a"], (), ("a",), ("a", ()), {}, {"a": "a"}, [[]], ([],), {"a": []},
]

LETTERS = "abcdefghijklmnopqrstuvwxyz"


def rows_with(places, roads):
    """Rows of so many places and roads: first one from each place to itself, then one to the next, and so on."""
    ends = [[] for letter in LETTERS[:places]]
    for number in range(roads):
        place = number % places
        ends[place].append(LETTERS[(place + number // places) % places])
    return [(LETTERS[place], tuple(ends[place])) for place in range(places)]


def in_order(rows):
    """The rows with all names to which roads lead in the order of the places."""
    order = [name for name, ends in rows]
    return [(name, tuple(sorted(ends, key=order.index))) for name, ends in rows]


def ladder(many):
    """Rows in which a road leads from each place to the next one, and none from the last one."""
    return [(LETTERS[place], tuple(LETTERS[place + 1:many][:1])) for place in range(many)]


def stairs(many):
    """Rows in which roads lead from each place to all places ahead of it."""
    return [(LETTERS[place], tuple(LETTERS[:place])) for place in range(many)]


def ring(many):
    """Rows in which a road leads from each place to the next one, and from the last one to the first."""
    return [(LETTERS[place], (LETTERS[(place + 1) % many],)) for place in range(many)]


ROWS_OF_GROUNDS = [
    [("a", ())],
    [("a", ("a",))],
    [("abcdefgh", ("abcdefgh",))],
    [("a", ("a", "b")), ("b", ())],
    [("b", ("a", "b")), ("a", ("a", "b"))],
    [("z", ("m", "a", "z")), ("a", ("z", "m")), ("m", ("a",))],
    [("c", ("b",)), ("b", ("a",)), ("a", ("c",))],
    [("one", ("three", "two")), ("two", ("three",)), ("three", ()), ("four", ("one", "four"))],
    [("a", ("aa", "aaa")), ("aaa", ("a",)), ("aa", ("aaa", "aa", "a"))],
    rows_with(14, 0),
    rows_with(14, 14),
    rows_with(14, 39),
    rows_with(14, 40),
    rows_with(7, 40),
    rows_with(6, 36),
    ladder(5),
    ladder(14),
    stairs(9),
    ring(2),
    ring(14),
]


def all_grounds(places):
    """Every ground of so many places; there are 2 ** (places * places)."""
    pairs = [(one, other) for one in LETTERS[:places] for other in LETTERS[:places]]
    for bits in range(2 ** len(pairs)):
        roads = [pair for number, pair in enumerate(pairs) if bits >> number & 1]
        yield Ground([(name, tuple(end for start, end in roads if start == name)) for name in LETTERS[:places]])


def mixed_grounds(many, stair=0):
    """So many grounds of 4 to 14 places, the same ones each time, with few roads and with many.

    The first places, as many as stair tells, are those of stairs.
    """
    state = 1
    for number in range(many):
        places = 4 + stair + number % (11 - stair)
        rows = stairs(stair)
        ends = [[] for letter in LETTERS[stair:places]]
        for step in range(min(places + number % 27, 40 - stair * (stair - 1) // 2)):
            state = (state * 1103515245 + 12345) % 2 ** 31
            start = state // 2 ** 8 % len(ends)
            end = LETTERS[state // 2 ** 16 % places]
            if end not in ends[start]:
                ends[start].append(end)
        yield Ground(rows + [(LETTERS[stair + start], tuple(ends[start])) for start in range(len(ends))])


def turned_round(ground):
    """The ground of the same names in the same order in which each road leads the other way."""
    rows = ground.rows()
    return Ground([(name, tuple(start for start, ends in rows if name in ends)) for name, ends in rows])


def with_other_names(table):
    """The table with a name less, with one more, and with another thing for a name."""
    for name in table:
        less = {other: entry for other, entry in table.items() if other != name}
        yield less
        for key in ("zz", "", None, 0, True, (), (name,), name.upper()):
            yield {**less, key: table[name]}
            yield {**table, key: table[name]}


class ShownCase(unittest.TestCase):
    def assert_answer(self, answer, ask, ground, thing):
        """ask(ground, thing) is this very truth, and the thing stays as it is."""
        before = copy.deepcopy(thing)
        self.assertIs(ask(ground, thing), answer, (ground.rows(), thing))
        self.assertEqual(thing, before)


class RefusalCase(unittest.TestCase):
    def assert_refused(self, kind, field, call, *args):
        """call(*args) raises just this class, its field is equal and of the same kind, and args stay as they are."""
        handed = [arg for arg in args if not isinstance(arg, Ground) and not callable(arg)]
        before = copy.deepcopy(handed)
        with self.assertRaises(HeapError) as caught:
            call(*args)
        error = caught.exception
        self.assertIs(type(error), kind)
        found = error.row if hasattr(error, "row") else error.found
        self.assertEqual(found, field)
        # A truth is equal to a number, but not written like it.
        self.assertEqual(repr(found), repr(field))
        self.assertEqual(handed, before)
