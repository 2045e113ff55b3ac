import itertools
import unittest

from helper import (
    NO_NAMES, RULES, THREE_ROUND, TWO_ZEROS, WITH_RINGS, Player, RefusalCase, grounds_for_plays, heaps_on,
    mixed_grounds, renamed, ring, rows_with, stairs,
)
from ringheaps.desk import Desk
from ringheaps.drawers import player
from ringheaps.errors import HeapError, NoHeap, NoLine, NoMove, NoPlace, NotSo, NoText, TooMany, Twice
from ringheaps.ground import Ground
from ringheaps.groundtext import read_ground, show_ground
from ringheaps.heaps import after, moves_of
from ringheaps.labels import worth_of
from ringheaps.made import joined, paired
from ringheaps.outcomes import outcome, outcomes_after
from ringheaps.parts import alike, least_ground, parting
from ringheaps.plainly import ring_in
from ringheaps.single import table_of
from ringheaps.winners import most_moves

# A talk with one desk: lines and their answers.
TALK = [
    ("ground g a: b a; b:; c: b", "ok"),
    ("show g", "a: a b; b:; c: b"),
    ("worths g", "a: endless 0; b: 0; c: 1"),
    ("worth g a", "endless 0"),
    ("worth g b", "0"),
    ("worth g c", "1"),
    ("single g a", "won 1"),
    ("single g b", "lost 0"),
    ("alike g a a", "yes"),
    ("alike g a b", "no"),
    ("part g b b", "alike"),
    ("ring g", "a"),
    ("heap none g", "ok"),
    ("tokens none", "-"),
    ("outcome none", "lost"),
    ("moves none", "-"),
    ("most none", "0"),
    ("heap h g a c c", "ok"),
    ("tokens h", "a c c"),
    ("outcome h", "won"),
    ("moves h", "0 a won; 0 b lost; 1 b drawn; 2 b drawn"),
    ("most h", "5"),
    ("play h", "b c c"),
    ("outcome h", "lost"),
    ("most h", "4"),
    ("moves h", "1 b won; 2 b won"),
    ("move h 2 b", "b c b"),
    ("moves h", "1 b lost"),
    ("play h", "b b b"),
    ("tokens h", "b b b"),
    ("moves h", "-"),
    ("ground ground x: y; y: x", "ok"),
    ("ring ground", "x y"),
    ("single ground x", "drawn"),
    ("worth ground y", "endless"),
    ("join both g ground", "ok"),
    ("show both", "a: a b; b:; c: b; x: y; y: x"),
    ("least less both", "ok"),
    ("show less", "a: a b; b:; c: b; x: x"),
    ("part less a x", "b won drawn"),
    ("part less x a", "b drawn won"),
    ("ground two o: p; p:", "ok"),
    ("pair four two two", "ok"),
    ("show four", "a: b c; b: d; c: d; d:"),
    ("ring four", "-"),
    ("worths four", "a: 0; b: 1; c: 1; d: 0"),
    ("single four a", "lost 2"),
    ("heap heap four a b c d d c b a", "ok"),
    ("tokens heap", "a b c d d c b a"),
    ("move heap 7 b", "a b c d d c b b"),
    ("move heap 0 c", "c b c d d c b b"),
    ("show g", "a: a b; b:; c: b"),
    ("tokens h", "b b b"),
]

# A line of each kind, for a desk that has the grounds g and k and the heap h.
LINES = [
    "ground n a:", "join n g k", "pair n k k", "least n g", "heap n g", "heap n g a", "heap n g a a", "move h 0 a",
    "play h", "show g", "worths g", "worth g a", "single g a", "alike g a b", "part g a b", "ring g", "tokens h",
    "outcome h", "moves h", "most h",
]

NO_LINES = [
    "", " ", "  ", "x", "x g", "g", "h", "-", "ok", "shows g", "shew g", "token h", "worthes g", "wins h", "place g",
    "Show g", "SHOW g", "Ground n a:", "Tokens h", "MOVE h 0 a", "show:g", "show;g", "show; g", "show g; tokens h",
    "ground", "ground ", "ground n", "ground  ", "ground  a:", "ground N a:", "ground n1 a:", "ground a-b a:",
    "ground abcdefghi a:", "ground a: b", "ground n: a:", "ground; n a:", " ground n a:", "ground  n a:",
    "join", "join n", "join n g", "join  g k", "join N g k", "join n g k k", "join n g k ", "join n  g k",
    "join abcdefghi g k", "pair", "pair n", "pair n k", "pair  k k", "pair n k k k", "pair 1 k k", "pair n k k ",
    "least", "least n", "least  g", "least n g g", "least n g ", "least nn1 g", "least n  g",
    "heap", "heap n", "heap ", "heap  g", "heap  g a", "heap N g a", "heap abcdefghi g a", "heap n_n g a", "heap 0 g",
    "move", "move h", "move h 0", "move h 0 a a", "move h 0 a ", "move h  0 a", "move  h 0 a", "move h 8 a",
    "move h 9 a", "move h 10 a", "move h 00 a", "move h 01 a", "move h -1 a", "move h +0 a", "move h a a", "move h  a",
    "move h 0  a", "move h 0. a", "move h 012 a", "move h zero a", "move h o a",
    "play", "play h h", "play h ", "play  h", " play h", "play h 0",
    "show", "show g g", "show g ", "show  g", " show g", "worths", "worths g a", "worths g ", "worth", "worth g",
    "worth g a a", "worth g a ", "worth  g a", "single", "single g", "single g a b", "single g  a", "alike", "alike g",
    "alike g a", "alike g a b a", "alike  g a b", "part", "part g", "part g a", "part g a b a", "part g a  b",
    "ring", "ring g g", "ring g ", "tokens", "tokens h h", "tokens h ", "outcome", "outcome h h", "outcome  h",
    "moves", "moves h h", "moves h ", "most", "most h h", "most h ",
]

# Each one: a line for the same desk, and the refusal that is due with its field.
REFUSED = [
    # The name is taken, by a ground or a heap, ahead of all else.
    ("ground g a:", Twice, "g"), ("ground h a:", Twice, "h"), ("ground g nothing", Twice, "g"),
    ("ground h ", Twice, "h"),
    ("join g g k", Twice, "g"), ("join h zz yy", Twice, "h"), ("join k k k", Twice, "k"), ("join g g g", Twice, "g"),
    ("pair g zz yy", Twice, "g"), ("pair h g g", Twice, "h"), ("pair k k k", Twice, "k"),
    ("least g g", Twice, "g"), ("least h zz", Twice, "h"),
    ("heap h g a", Twice, "h"), ("heap g g a", Twice, "g"), ("heap h zz zz", Twice, "h"), ("heap g zz", Twice, "g"),
    # No ground of the desk, from the left.
    ("join n zz yy", NoPlace, "zz"), ("join n g yy", NoPlace, "yy"), ("join n yy g", NoPlace, "yy"),
    ("join n n g", NoPlace, "n"), ("join n  g", NoPlace, ""), ("join n g ", NoPlace, ""), ("join n h k", NoPlace, "h"),
    ("join n k h", NoPlace, "h"), ("join n G K", NoPlace, "G"), ("join n g: k", NoPlace, "g:"),
    ("pair n zz yy", NoPlace, "zz"), ("pair n g yy", NoPlace, "yy"), ("pair n h h", NoPlace, "h"),
    ("least n zz", NoPlace, "zz"), ("least n n", NoPlace, "n"), ("least n h", NoPlace, "h"), ("least n ", NoPlace, ""),
    ("heap n zz", NoPlace, "zz"), ("heap n zz yy", NoPlace, "zz"), ("heap n h a", NoPlace, "h"),
    ("heap n ", NoPlace, ""),
    ("heap n  g", NoPlace, ""), ("heap n zz " + "a " * 8 + "a", NoPlace, "zz"),
    ("show zz", NoPlace, "zz"), ("show h", NoPlace, "h"), ("show ", NoPlace, ""), ("show G", NoPlace, "G"),
    ("show g;", NoPlace, "g;"), ("show 0", NoPlace, "0"), ("worths zz", NoPlace, "zz"), ("worths h", NoPlace, "h"),
    ("worth zz yy", NoPlace, "zz"), ("worth h a", NoPlace, "h"), ("worth  a", NoPlace, ""), ("worth a g", NoPlace, "a"),
    ("single zz yy", NoPlace, "zz"), ("single h a", NoPlace, "h"), ("alike zz yy xx", NoPlace, "zz"),
    ("alike h a a", NoPlace, "h"), ("part zz yy xx", NoPlace, "zz"), ("part h a b", NoPlace, "h"),
    ("ring zz", NoPlace, "zz"), ("ring h", NoPlace, "h"), ("ring ", NoPlace, ""),
    # No heap of the desk.
    ("move zz 0 a", NoHeap, "zz"), ("move g 0 a", NoHeap, "g"), ("move  0 a", NoHeap, ""),
    ("move zz 7 yy", NoHeap, "zz"),
    ("play zz", NoHeap, "zz"), ("play g", NoHeap, "g"), ("play ", NoHeap, ""), ("tokens zz", NoHeap, "zz"),
    ("tokens ", NoHeap, ""), ("tokens g", NoHeap, "g"), ("tokens H", NoHeap, "H"), ("outcome zz", NoHeap, "zz"),
    ("outcome k", NoHeap, "k"), ("moves zz", NoHeap, "zz"), ("moves g", NoHeap, "g"), ("most zz", NoHeap, "zz"),
    ("most g", NoHeap, "g"), ("most ", NoHeap, ""),
    # What the stages refuse.
    ("ground n ", NoText, 0), ("ground n  ", NoText, 0), ("ground n  a:", NoText, 0), ("ground n a", NoText, 0),
    ("ground n a: ", NoText, 0), ("ground n a:;", NoText, 0), ("ground n a:;b:", NoText, 0),
    ("ground n a:; ", NoText, 1),
    ("ground n ; a:", NoText, 0), ("ground n a:;  b:", NoText, 1), ("ground n a:; ; b:", NoText, 1),
    ("ground n a:; b:; C:", NoText, 2), ("ground n a: b; b: a  b", NoText, 1), ("ground n a: b; b:;", NoText, 1),
    ("ground n " + "; ".join(name + ":" for name in "abcdefghijklmno"), TooMany, 15),
    ("ground n a:; b:; a:", Twice, "a"), ("ground n a: b", NoPlace, "b"), ("ground n a: a a", Twice, "a"),
    ("ground n g: h", NoPlace, "h"), ("ground n a: n", NoPlace, "n"),
    ("join n g g", Twice, "a"), ("join n k k", Twice, "x"), ("join n more g", Twice, "a"),
    ("join n g more", Twice, "b"),
    ("join n much much", Twice, "za"), ("join n k much", TooMany, 15), ("join n much g", TooMany, 16),
    ("join n full much", TooMany, 21), ("join n full k", TooMany, 41), ("join n g full", TooMany, 42),
    ("pair n much g", TooMany, 28), ("pair n full full", TooMany, 49), ("pair n much much", TooMany, 196),
    ("pair n g full", TooMany, 87), ("pair n pile g", TooMany, 55),
    ("heap n g zz", NoPlace, "zz"), ("heap n g a zz yy", NoPlace, "zz"), ("heap n g ", NoPlace, ""),
    ("heap n g a ", NoPlace, ""), ("heap n g  a", NoPlace, ""), ("heap n g g", NoPlace, "g"),
    ("heap n g h", NoPlace, "h"),
    ("heap n g" + " a" * 9, TooMany, 9), ("heap n g" + " zz" * 10, TooMany, 10), ("heap n g" + " " * 9, TooMany, 9),
    ("heap n g A", NoPlace, "A"), ("heap n g a: b", NoPlace, "a:"), ("heap n g 0", NoPlace, "0"),
    ("move h 0 zz", NoMove, (0, "zz")), ("move h 2 a", NoMove, (2, "a")), ("move h 7 a", NoMove, (7, "a")),
    ("move h 1 a", NoMove, (1, "a")), ("move h 0 ", NoMove, (0, "")), ("move h 0 A", NoMove, (0, "A")),
    ("move h 3 c", NoMove, (3, "c")), ("move h 0 c", NoMove, (0, "c")), ("move over 0 a", NoMove, (0, "a")),
    ("play over", NotSo, "lost"), ("play none", NotSo, "lost"), ("most draw", NotSo, "drawn"),
    ("worth g zz", NoPlace, "zz"), ("worth g g", NoPlace, "g"), ("worth g ", NoPlace, ""), ("worth g A", NoPlace, "A"),
    ("single g zz", NoPlace, "zz"), ("single g ", NoPlace, ""), ("single g x", NoPlace, "x"),
    ("single g h", NoPlace, "h"),
    ("alike g zz yy", NoPlace, "zz"), ("alike g a yy", NoPlace, "yy"), ("alike g yy a", NoPlace, "yy"),
    ("alike g a ", NoPlace, ""), ("alike g  a", NoPlace, ""), ("part g zz yy", NoPlace, "zz"),
    ("part g b yy", NoPlace, "yy"), ("part g yy b", NoPlace, "yy"), ("part g  ", NoPlace, ""),
]

GROUNDS_OF_THE_DESK = ["g", "k", "full", "much", "more", "pile"]
HEAPS_OF_THE_DESK = ["h", "none", "over", "draw"]


def desk_with_things():
    desk = Desk()
    for line in (
        "ground g a: a b; b:", "ground k x: x", "heap h g a b", "heap none g", "heap over g b b", "heap draw k x",
        "ground full " + row_text(renamed(Ground(rows_with(7, 40)))),
        "ground much " + "; ".join("z" + letter + ":" for letter in "abcdefghijklmn"),
        "ground more c: a; b:; a:", "ground pile " + row_text(Ground(rows_with(5, 25))),
    ):
        desk.say(line)
    return desk


def row_text(ground):
    return show_ground(ground).replace("\n", "; ")


def told_of_ground(desk, name):
    return [desk.say(word + " " + name) for word in ("show", "worths", "ring")]


def told_of_heap(desk, name):
    return [desk.say(word + " " + name) for word in ("tokens", "outcome", "moves")]


def all_told(desk):
    grounds = [told_of_ground(desk, name) for name in GROUNDS_OF_THE_DESK]
    return (grounds, [told_of_heap(desk, name) for name in HEAPS_OF_THE_DESK])


def single_text(entry):
    return "drawn" if entry[0] == "drawn" else entry[0] + " " + str(entry[1])


class Answers(unittest.TestCase):
    def test_a_talk(self):
        desk = Desk()
        for line, answer in TALK:
            told = desk.say(line)
            self.assertEqual(told, answer, line)
            self.assertIs(type(told), str)

    def test_a_line_of_each_kind(self):
        for line in LINES:
            self.assertIs(type(desk_with_things().say(line)), str)

    def test_lines_that_ask_of_a_ground(self):
        for ground in grounds_for_plays():
            desk = Desk()
            names = ground.names()
            self.assertEqual(desk.say("ground g " + row_text(ground)), "ok")
            texts = [" ".join((name + ":",) + ends) for name, ends in ground.rows()]
            self.assertEqual(desk.say("show g"), "; ".join(texts))
            worths = [worth_of(ground, name).text() for name in names]
            self.assertEqual(desk.say("worths g"), "; ".join(name + ": " + text for name, text in zip(names, worths)))
            table = table_of(ground)
            for name, text in zip(names, worths):
                self.assertEqual(desk.say("worth g " + name), text)
                self.assertEqual(desk.say("single g " + name), single_text(table[name]))
            self.assertEqual(desk.say("ring g"), "-" if ring_in(ground) is None else " ".join(ring_in(ground)))
            for one, other in list(itertools.product(names, repeat=2))[::3]:
                line = " g " + one + " " + other
                self.assertEqual(desk.say("alike" + line), "yes" if alike(ground, one, other) else "no")
                told = parting(ground, one, other)
                self.assertEqual(desk.say("part" + line), "alike" if told is None else " ".join(told))

    def test_lines_that_ask_of_a_heap(self):
        for ground in itertools.chain(itertools.islice(grounds_for_plays(), 25), mixed_grounds(12)):
            desk = Desk()
            desk.say("ground g " + row_text(ground))
            for number, heap in enumerate(heaps_on(ground)):
                name = "h" + "abcdefghijklmnopqrstuvwxyzz"[number] + "x" * (number // 26)
                self.assertEqual(desk.say(" ".join(["heap", name, "g"] + heap)), "ok")
                self.assertEqual(desk.say("tokens " + name), " ".join(heap) or "-")
                self.assertEqual(desk.say("outcome " + name), outcome(ground, heap))
                pairs = outcomes_after(ground, heap)
                texts = [str(token) + " " + place + " " + word for (token, place), word in pairs]
                self.assertEqual(desk.say("moves " + name), "; ".join(texts) or "-")
                if outcome(ground, heap) != "drawn":
                    self.assertEqual(desk.say("most " + name), str(most_moves(ground, heap)))

    def test_grounds_that_are_made(self):
        grounds = [read_ground(text) for text in (TWO_ZEROS, WITH_RINGS, THREE_ROUND, "a: b\nb: a c\nc:", "a:", "a: a")]
        for one, other in itertools.product(grounds, repeat=2):
            desk = Desk()
            desk.say("ground one " + row_text(one))
            desk.say("ground other " + row_text(renamed(other)))
            self.assertEqual(desk.say("join made one other"), "ok")
            self.assertEqual(desk.say("show made"), row_text(joined(one, renamed(other))))
            self.assertEqual(desk.say("least least made"), "ok")
            self.assertEqual(desk.say("show least"), row_text(least_ground(joined(one, renamed(other)))[0]))
            if len(one.names()) * len(other.names()) <= 12:
                self.assertEqual(desk.say("pair pair one other"), "ok")
                self.assertEqual(desk.say("show pair"), row_text(paired(one, other)[0]))
                self.assertEqual(desk.say("heap heap pair a"), "ok")
                self.assertEqual(desk.say("outcome heap"), outcome(paired(one, other)[0], ["a"]))
            self.assertEqual(desk.say("show one"), row_text(one))

    def test_what_was_shown_is_read_again(self):
        for ground in itertools.chain(map(Ground, (rows_with(14, 40), ring(14), stairs(9))), mixed_grounds(20)):
            desk = Desk()
            desk.say("ground one " + row_text(ground))
            desk.say("ground two " + desk.say("show one"))
            self.assertEqual(told_of_ground(desk, "two"), told_of_ground(desk, "one"))

    def test_rows_in_any_order(self):
        desk = Desk()
        self.assertEqual(desk.say("ground a b: c b a; a: c a; c: b"), "ok")
        self.assertEqual(desk.say("show a"), "b: b a c; a: a c; c: b")

    def test_all_tokens_can_be_moved(self):
        for token in range(8):
            desk = Desk()
            desk.say("ground g a: b; b:")
            desk.say("heap h g" + " a" * 8)
            places = ["a"] * 8
            places[token] = "b"
            self.assertEqual(desk.say("move h " + str(token) + " b"), " ".join(places))
            self.assertEqual(desk.say("tokens h"), " ".join(places))

    def test_names_of_one_and_of_eight_letters(self):
        desk = Desk()
        for name in ("a", "z", "abcdefgh", "ground", "heap", "show", "name"):
            self.assertEqual(desk.say("ground " + name + " a: b; b:"), "ok")
            self.assertEqual(desk.say("heap " + name[:7] + "x " + name + " a"), "ok")
            self.assertEqual(desk.say("play " + name[:7] + "x"), "b")


class Plays(unittest.TestCase):
    def test_plays_of_many_lines(self):
        for ground in itertools.chain(itertools.islice(grounds_for_plays(), 11), mixed_grounds(8)):
            for heap in list(heaps_on(ground))[3::5]:
                for rule in RULES[1:3]:
                    self.follow(ground, heap, rule)

    def follow(self, ground, heap, rule):
        """By turns the player's move, and one by the rule, which is told as a line."""
        desk = Desk()
        desk.say("ground g " + row_text(ground))
        desk.say(" ".join(["heap", "h", "g"] + heap))
        hand = Player(ground, rule)
        now = list(heap)
        for turn in range(30):
            if not moves_of(ground, now):
                break
            if turn % 2 == 0:
                now = after(ground, now, player(ground)(now))
                told = desk.say("play h")
            else:
                token, place = hand.tell(now)
                now = after(ground, now, (token, place))
                told = desk.say("move h " + str(token) + " " + place)
            self.assertEqual(told, " ".join(now))
            self.assertEqual(desk.say("tokens h"), told)
            self.assertEqual(desk.say("outcome h"), outcome(ground, now))

    def test_heaps_of_one_desk_do_not_know_of_each_other(self):
        desk = Desk()
        desk.say("ground g a: b; b: c; c:")
        desk.say("ground k a: a")
        desk.say("heap one g a a")
        desk.say("heap two g a a")
        desk.say("heap three k a a")
        self.assertEqual(desk.say("move one 1 b"), "a b")
        self.assertEqual(desk.say("tokens two"), "a a")
        self.assertEqual(desk.say("move three 1 a"), "a a")
        self.assertEqual(desk.say("move two 0 b"), "b a")
        self.assertEqual(desk.say("tokens one"), "a b")

    def test_two_desks_side_by_side(self):
        one, other = Desk(), Desk()
        for line, answer in TALK:
            self.assertEqual(one.say(line), answer)
        with self.assertRaises(NoPlace):
            other.say("show g")
        with self.assertRaises(NoHeap):
            other.say("tokens h")
        self.assertEqual(other.say("ground h p: p"), "ok")
        self.assertEqual(other.say("heap g h p"), "ok")
        self.assertEqual(one.say("show g"), "a: a b; b:; c: b")
        self.assertEqual(one.say("tokens h"), "b b b")
        self.assertEqual(other.say("show h"), "p: p")
        self.assertEqual(other.say("tokens g"), "p")

    def test_two_desks_line_by_line(self):
        one, other = Desk(), Desk()
        for line, answer in TALK:
            self.assertEqual((one.say(line), other.say(line)), (answer, answer))


class NoLines(RefusalCase):
    def refuse(self, desk, line):
        before = all_told(desk)
        self.assert_refused(NoLine, line, desk.say, line)
        self.assertEqual(all_told(desk), before)

    def test_what_is_no_text(self):
        desk = desk_with_things()
        for thing in NO_NAMES + [["show g"], ("show g",), ["show", "g"], ("show", "g"), {"show": "g"}, [["show g"]]]:
            if not isinstance(thing, str):
                self.refuse(desk, thing)

    def test_other_texts(self):
        desk = desk_with_things()
        for line in NO_LINES + [thing for thing in NO_NAMES if isinstance(thing, str)]:
            self.refuse(desk, line)

    def test_a_desk_without_things(self):
        for line in NO_LINES:
            self.assert_refused(NoLine, line, Desk().say, line)

    def test_words_too_many_or_too_few(self):
        desk = desk_with_things()
        for line in LINES:
            words = line.split(" ")
            if words[0] not in ("heap", "ground"):
                for more in (" a", " 0", " ", "  ", " g h"):
                    self.refuse(desk, line + more)
            if words[0] != "heap":
                for many in range(1, len(words)):
                    self.refuse(desk, " ".join(words[:many]))
            self.refuse(desk, " " + line)
            self.refuse(desk, line.replace(" ", "  "))
            self.refuse(desk, line[0].upper() + line[1:])
            self.refuse(desk, line.upper())
            self.refuse(desk, line.replace(" ", "", 1))

    def test_a_line_feed(self):
        desk = desk_with_things()
        for line in LINES:
            for broken in (line + "\n", "\n" + line, line.replace(" ", "\n", 1), line.replace(" ", " \n", 1)):
                self.refuse(desk, broken)
            self.refuse(desk, line + "\n" + line)
        self.refuse(desk, "ground n a:\nb:")
        self.refuse(desk, "ground n a: b\nb:")
        self.refuse(desk, "ground g a:\n")

    def test_names_that_are_none(self):
        desk = desk_with_things()
        for name in [thing for thing in NO_NAMES if isinstance(thing, str) and " " not in thing]:
            for line in ("ground ? a:", "join ? g k", "pair ? k k", "least ? g", "heap ? g a", "join ? zz yy"):
                self.refuse(desk, line.replace("?", name))

    def test_tokens_that_are_none(self):
        desk = desk_with_things()
        for token in ["8", "9", "10", "00", "01", "07", "70", "-0", "-1", "+1", "a", "x", "", "0.", "1e", "none", "0a"]:
            self.refuse(desk, "move h " + token + " a")
            self.refuse(desk, "move zz " + token + " zz")


class Refused(RefusalCase):
    def test_the_first_that_is_due(self):
        desk = desk_with_things()
        before = all_told(desk)
        for line, kind, field in REFUSED:
            self.assert_refused(kind, field, desk.say, line)
            self.assertEqual(all_told(desk), before, line)

    def test_a_name_that_was_refused_is_free(self):
        desk = desk_with_things()
        for line, kind, field in REFUSED:
            if line.split(" ")[1] == "n":
                with self.assertRaises(HeapError):
                    desk.say(line)
                self.assert_refused(NoPlace, "n", desk.say, "show n")
                self.assert_refused(NoHeap, "n", desk.say, "tokens n")
        self.assertEqual(desk.say("ground n a:"), "ok")
        self.assert_refused(Twice, "n", desk.say, "heap n g")

    def test_a_name_that_is_taken_stays_what_it_was(self):
        desk = Desk()
        for line in ("ground g a:", "heap h g a", "least l g", "pair p g g"):
            desk.say(line)
        for name in "glp":
            for line in ("ground ? b:", "join ? g g", "pair ? g g", "least ? g", "heap ? g"):
                self.assert_refused(Twice, name, desk.say, line.replace("?", name))
            self.assertEqual(desk.say("show " + name), "a:")
        for line in ("ground h b:", "join h g g", "pair h g g", "least h g", "heap h g"):
            self.assert_refused(Twice, "h", desk.say, line)
        self.assertEqual(desk.say("tokens h"), "a")
        self.assertEqual(desk.say("ground j b:"), "ok")

    def test_what_can_be_paired_and_joined_just_so(self):
        desk = desk_with_things()
        self.assertEqual(desk.say("pair n full k"), "ok")
        self.assertEqual(desk.say("pair m pile k"), "ok")
        self.assertEqual(desk.say("pair o much k"), "ok")
        self.assertEqual(desk.say("least p much"), "ok")
        self.assertEqual(desk.say("join q p full"), "ok")


if __name__ == "__main__":
    unittest.main()
