"""A desk, which keeps grounds and heaps by names and answers lines."""

from ringheaps.drawers import player
from ringheaps.errors import NoHeap, NoLine, NoPlace, Twice
from ringheaps.ground import need_place
from ringheaps.groundtext import read_ground, show_ground
from ringheaps.heaps import after, need_heap
from ringheaps.labels import worth_of
from ringheaps.made import joined, paired
from ringheaps.outcomes import outcome, outcomes_after
from ringheaps.parts import alike, least_ground, parting
from ringheaps.plainly import ring_in
from ringheaps.single import table_of
from ringheaps.winners import most_moves
from ringheaps.words import is_name

# What stands behind the first word of each line; rows and places are all words that are left.
FORMS = {
    "ground": ("name", "rows"),
    "join": ("name", "ground", "ground"),
    "pair": ("name", "ground", "ground"),
    "least": ("name", "ground"),
    "heap": ("name", "ground", "places"),
    "move": ("heap", "token", "place"),
    "play": ("heap",),
    "show": ("ground",),
    "worths": ("ground",),
    "worth": ("ground", "place"),
    "single": ("ground", "place"),
    "alike": ("ground", "place", "place"),
    "part": ("ground", "place", "place"),
    "ring": ("ground",),
    "tokens": ("heap",),
    "outcome": ("heap",),
    "moves": ("heap",),
    "most": ("heap",),
}

TOKENS = ("0", "1", "2", "3", "4", "5", "6", "7")


def many_fit(form, many):
    if form[-1] == "places":
        return many >= len(form) - 1
    if form[-1] == "rows":
        return many >= len(form)
    return many == len(form)


def word_fits(kind, word):
    if kind == "name":
        return is_name(word)
    return kind != "token" or word in TOKENS


def is_line(words):
    if words[0] not in FORMS:
        return False
    form = FORMS[words[0]]
    behind = words[1:]
    return many_fit(form, len(behind)) and all([word_fits(kind, word) for kind, word in zip(form, behind)])


def words_of(line):
    if not isinstance(line, str) or "\n" in line:
        raise NoLine(line)
    words = line.split(" ")
    if not is_line(words):
        raise NoLine(line)
    return words


def need_known(desk, words):
    # A name stands ahead of all grounds and heaps, so from the left is the order in which refusals are due.
    for kind, word in zip(FORMS[words[0]], words[1:]):
        if kind == "name" and (word in desk.grounds or word in desk.heaps):
            raise Twice(word)
        if kind == "ground" and word not in desk.grounds:
            raise NoPlace(word)
        if kind == "heap" and word not in desk.heaps:
            raise NoHeap(word)


def or_dash(text):
    if text == "":
        return "-"
    return text


def show_answer(ground, places):
    return show_ground(ground).replace("\n", "; ")


def worths_answer(ground, places):
    return "; ".join([name + ": " + worth_of(ground, name).text() for name in ground.names()])


def worth_answer(ground, places):
    return worth_of(ground, places[0]).text()


def single_answer(ground, places):
    need_place(ground, places[0])
    entry = table_of(ground)[places[0]]
    if entry[0] == "drawn":
        return entry[0]
    return entry[0] + " " + str(entry[1])


def alike_answer(ground, places):
    if alike(ground, places[0], places[1]):
        return "yes"
    return "no"


def part_answer(ground, places):
    triple = parting(ground, places[0], places[1])
    if triple is None:
        return "alike"
    return " ".join(triple)


def ring_answer(ground, places):
    found = ring_in(ground)
    if found is None:
        return "-"
    return " ".join(found)


GROUND_ANSWERS = {
    "show": show_answer,
    "worths": worths_answer,
    "worth": worth_answer,
    "single": single_answer,
    "alike": alike_answer,
    "part": part_answer,
    "ring": ring_answer,
}


def tokens_answer(ground, heap):
    return or_dash(" ".join(heap))


def outcome_answer(ground, heap):
    return outcome(ground, heap)


def move_text(pair):
    return " ".join([str(pair[0][0]), pair[0][1], pair[1]])


def moves_answer(ground, heap):
    return or_dash("; ".join([move_text(pair) for pair in outcomes_after(ground, heap)]))


def most_answer(ground, heap):
    return str(most_moves(ground, heap))


HEAP_ANSWERS = {
    "tokens": tokens_answer,
    "outcome": outcome_answer,
    "moves": moves_answer,
    "most": most_answer,
}


def ground_made(desk, words):
    if words[0] == "ground":
        return read_ground(" ".join(words[2:]).replace("; ", "\n"))
    one = desk.grounds[words[2]]
    if words[0] == "least":
        return least_ground(one)[0]
    other = desk.grounds[words[3]]
    if words[0] == "join":
        return joined(one, other)
    return paired(one, other)[0]


def move_told(ground, heap, words):
    if words[0] == "play":
        return player(ground)(heap)
    return (TOKENS.index(words[2]), words[3])


class Desk:
    def __init__(self):
        self.grounds = {}
        # Each heap is kept as a tuple of its ground and its places.
        self.heaps = {}

    def say(self, line):
        words = words_of(line)
        need_known(self, words)
        if words[0] in GROUND_ANSWERS:
            return GROUND_ANSWERS[words[0]](self.grounds[words[1]], words[2:])
        if words[0] in HEAP_ANSWERS:
            kept = self.heaps[words[1]]
            return HEAP_ANSWERS[words[0]](kept[0], kept[1])
        if words[0] in ("move", "play"):
            return self.change_heap(words)
        if words[0] == "heap":
            self.make_heap(words)
        else:
            self.grounds[words[1]] = ground_made(self, words)
        return "ok"

    def make_heap(self, words):
        ground = self.grounds[words[2]]
        need_heap(ground, words[3:])
        self.heaps[words[1]] = (ground, words[3:])

    def change_heap(self, words):
        kept = self.heaps[words[1]]
        left = after(kept[0], kept[1], move_told(kept[0], kept[1], words))
        self.heaps[words[1]] = (kept[0], left)
        return tokens_answer(kept[0], left)
