import unittest

from helper import LETTERS, ROWS_OF_GROUNDS, RefusalCase, all_grounds, in_order, ladder, mixed_grounds, rows_with
from ringheaps.errors import NoPlace, NoText, TooMany, Twice
from ringheaps.ground import Ground
from ringheaps.groundtext import drawn, read_ground, show_ground

# Each pair: rows of a ground, and its text.
WRITTEN = [
    ([("a", ())], "a:"),
    ([("a", ("a",))], "a: a"),
    ([("abcdefgh", ("abcdefgh",))], "abcdefgh: abcdefgh"),
    ([("a", ("b", "a")), ("b", ())], "a: a b\nb:"),
    ([("b", ()), ("a", ())], "b:\na:"),
    ([("z", ("m", "a", "z")), ("a", ("z", "m")), ("m", ("a",))], "z: z a m\na: z m\nm: a"),
    (rows_with(14, 0), "a:\nb:\nc:\nd:\ne:\nf:\ng:\nh:\ni:\nj:\nk:\nl:\nm:\nn:"),
    (ladder(14), "a: b\nb: c\nc: d\nd: e\ne: f\nf: g\ng: h\nh: i\ni: j\nj: k\nk: l\nl: m\nm: n\nn:"),
]

NO_LINES = [
    "", " ", ":", " :", "a", "a b", "ab", ": a", ":a",
    "a :", "a : a", " a:", " a: a", "a: ", "a:  ", "a: a ", "a:  a", "a: a  a", "a:a", "a:a a", "a: a:", "a::",
    "a:: a",
    "a: :", "a: a: a", "a:a:a", "a: a:a", "a: a, a", "a: a;", "a; a", "a. a", "a, a",
    "A:", "aB: a", "a: A", "a: aB", "a1:", "1: a", "a: 1", "a: a a2", "a_a:", "a: a_a", "a-a:", "a: a-a", "{a}:",
    "a: `",
    "abcdefghi:", "abcdefghi: a", "a: abcdefghi", "a: a abcdefghi", "a: " + "z" * 1000, "a: a\t",
]


class WrittenGrounds(unittest.TestCase):
    def test_texts_by_hand(self):
        for rows, text in WRITTEN:
            self.assertEqual(show_ground(Ground(rows)), text)

    def test_each_row_is_a_line(self):
        for rows in ROWS_OF_GROUNDS:
            lines = show_ground(Ground(rows)).split("\n")
            self.assertEqual(lines, [name + ":" + "".join(" " + end for end in ends) for name, ends in in_order(rows)])

    def test_a_text_is_told(self):
        self.assertIs(type(show_ground(Ground([("a", ())]))), str)


class ReadGrounds(unittest.TestCase):
    def test_texts_by_hand(self):
        for rows, text in WRITTEN:
            ground = read_ground(text)
            self.assertIs(type(ground), Ground)
            self.assertEqual(ground.rows(), in_order(rows))
            self.assertEqual(ground.names(), [name for name, ends in rows])

    def test_names_behind_the_colon_in_any_order(self):
        for text in ("a: b c a\nb: c b\nc:", "a: c b a\nb: b c\nc:", "a: a c b\nb: b c\nc:"):
            ground = read_ground(text)
            self.assertEqual(ground.rows(), [("a", ("a", "b", "c")), ("b", ("b", "c")), ("c", ())])
            self.assertEqual(show_ground(ground), "a: a b c\nb: b c\nc:")

    def test_what_is_written_is_read_as_the_same_ground(self):
        grounds = [Ground(rows) for rows in ROWS_OF_GROUNDS] + list(all_grounds(2)) + list(mixed_grounds(60))
        for ground in grounds:
            text = show_ground(ground)
            again = read_ground(text)
            self.assertEqual(again.rows(), ground.rows())
            self.assertEqual(again.names(), ground.names())
            self.assertEqual(show_ground(again), text)

    def test_the_longest_names_and_the_most_roads(self):
        names = [letter * 8 for letter in LETTERS[:14]]
        rows = [(name, tuple(names[:3] if number < 13 else names[:1])) for number, name in enumerate(names)]
        self.assertEqual(sum(len(ends) for name, ends in rows), 40)
        self.assertEqual(read_ground(show_ground(Ground(rows))).rows(), rows)


class NoTexts(RefusalCase):
    def test_what_is_no_text(self):
        for thing in (0, 1, -1, 10 ** 99, True, False, None, [], ["a:"], (), ("a:",), {}, {"a:": "a:"}, [("a", ())]):
            self.assert_refused(NoText, 0, read_ground, thing)

    def test_the_text_without_signs(self):
        self.assert_refused(NoText, 0, read_ground, "")

    def test_each_line_that_is_not_of_the_form(self):
        for line in NO_LINES:
            self.assert_refused(NoText, 0, read_ground, line)
            self.assert_refused(NoText, 0, read_ground, line + "\nb:\nc: b")
            self.assert_refused(NoText, 1, read_ground, "b: c\n" + line + "\nc: c")
            self.assert_refused(NoText, 2, read_ground, "b:\nc: b\n" + line)

    def test_each_other_sign_in_a_line(self):
        for code in range(32, 127):
            sign = chr(code)
            if "a" <= sign <= "z" or sign == "%":
                continue
            texts = [sign + "a: a", "a" + sign + ": a", "a: a" + sign, "a:" + sign + " a"]
            texts += ["a:" + sign + "a"] if sign != " " else []
            texts += ["a: a" + sign + "a"] if sign != " " else []
            for text in texts:
                self.assert_refused(NoText, 0, read_ground, text)

    def test_a_line_feed_at_an_end(self):
        self.assert_refused(NoText, 1, read_ground, "a:\n")
        self.assert_refused(NoText, 2, read_ground, "a: a b\nb:\n")
        self.assert_refused(NoText, 0, read_ground, "\na:")
        self.assert_refused(NoText, 0, read_ground, "\n")
        self.assert_refused(NoText, 1, read_ground, "a:\n\nb:")
        self.assert_refused(NoText, 1, read_ground, "a:\n\n")

    def test_of_two_such_lines_the_first(self):
        for line in NO_LINES:
            self.assert_refused(NoText, 1, read_ground, "b:\n" + line + "\nc:\n" + line)
            self.assert_refused(NoText, 0, read_ground, line + "\nB:")
            self.assert_refused(NoText, 1, read_ground, "b:\nB:\n" + line)

    def test_the_number_of_a_late_line(self):
        self.assert_refused(NoText, 13, read_ground, show_ground(Ground(rows_with(13, 13))) + "\nn")
        self.assert_refused(NoText, 399, read_ground, "a:\n" * 399 + "a")


class RefusedAsTheGround(RefusalCase):
    def refuse_both(self, kind, field, rows):
        text = "\n".join(" ".join([name + ":", *ends]) for name, ends in rows)
        self.assert_refused(kind, field, Ground, rows)
        self.assert_refused(kind, field, read_ground, text)
        self.assert_refused(NoText, len(rows), read_ground, text + "\n")

    def test_a_place_twice(self):
        self.refuse_both(Twice, "a", [("a", ()), ("a", ())])
        self.refuse_both(Twice, "b", [("a", ("zz",)), ("b", ()), ("b", ()), ("a", ())])

    def test_a_road_to_no_place(self):
        self.refuse_both(NoPlace, "b", [("a", ("b",))])
        self.refuse_both(NoPlace, "zz", [("a", ("a", "zz", "yy")), ("b", ("b", "b"))])

    def test_a_road_twice(self):
        self.refuse_both(Twice, "a", [("a", ("a", "a"))])
        self.refuse_both(Twice, "b", [("a", ("b", "a", "b", "a", "zz")), ("b", ())])

    def test_fifteen_places(self):
        self.refuse_both(TooMany, 15, rows_with(15, 0))
        self.refuse_both(TooMany, 16, rows_with(16, 70))
        self.refuse_both(TooMany, 300, [("a", ("zz",))] * 300)

    def test_forty_one_roads(self):
        self.refuse_both(TooMany, 41, rows_with(14, 41))
        self.refuse_both(TooMany, 49, rows_with(7, 49))


class DrawnGrounds(unittest.TestCase):
    def test_tables_by_hand(self):
        self.assertEqual(drawn(Ground([("a", ())])), [["", "a"], ["a", "."]])
        self.assertEqual(drawn(Ground([("home", ("home",))])), [["", "home"], ["home", "x"]])
        self.assertEqual(
            drawn(Ground([("z", ("m", "a", "z")), ("a", ("m",)), ("m", ())])),
            [["", "z", "a", "m"], ["z", "x", "x", "x"], ["a", ".", ".", "x"], ["m", ".", ".", "."]],
        )

    def test_a_sign_for_each_two_places(self):
        for rows in ROWS_OF_GROUNDS:
            table = drawn(Ground(rows))
            names = [name for name, ends in rows]
            self.assertEqual(table[0], [""] + names)
            self.assertEqual([row[0] for row in table[1:]], names)
            for (name, ends), row in zip(rows, table[1:]):
                self.assertEqual(row[1:], ["x" if other in ends else "." for other in names])

    def test_lists_of_texts(self):
        table = drawn(Ground(rows_with(3, 4)))
        self.assertIs(type(table), list)
        for row in table:
            self.assertIs(type(row), list)
            self.assertEqual({type(sign) for sign in row}, {str})


class OwnTexts(unittest.TestCase):
    TEXT = "z: z a m\na: z m\nm:"
    TABLE = [["", "z", "a", "m"], ["z", "x", "x", "x"], ["a", "x", ".", "x"], ["m", ".", ".", "."]]

    def test_tables_that_were_told_are_changed(self):
        ground = read_ground(self.TEXT)
        for number in range(4):
            told = drawn(ground)
            self.assertEqual(told, self.TABLE)
            told[number].clear()
            told[0].append("o")
            told.reverse()
            self.assertEqual(drawn(ground), self.TABLE)
        self.assertIsNot(drawn(ground), drawn(ground))
        self.assertIsNot(drawn(ground)[1], drawn(ground)[1])
        self.assertEqual(show_ground(ground), self.TEXT)

    def test_rows_handed_in_are_changed(self):
        rows = [("z", ("m", "a", "z")), ("a", ("z", "m")), ("m", ())]
        ground = Ground(rows)
        rows.reverse()
        rows.append(("o", ()))
        self.assertEqual(show_ground(ground), self.TEXT)
        self.assertEqual(drawn(ground), self.TABLE)

    def test_another_ground_is_asked_between(self):
        ground = read_ground(self.TEXT)
        other = read_ground("z: a\na:\nm: m")
        for again in range(2):
            self.assertEqual(show_ground(ground), self.TEXT)
            self.assertEqual(show_ground(other), "z: a\na:\nm: m")
            self.assertEqual(drawn(ground), self.TABLE)
            self.assertEqual(drawn(other)[1:], [["z", ".", "x", "."], ["a", ".", ".", "."], ["m", ".", ".", "x"]])

    def test_a_ground_made_alike_tells_the_same(self):
        for rows in ROWS_OF_GROUNDS:
            turned = [(name, tuple(reversed(ends))) for name, ends in rows]
            self.assertEqual(show_ground(Ground(turned)), show_ground(Ground(rows)))
            self.assertEqual(drawn(Ground(turned)), drawn(Ground(rows)))


if __name__ == "__main__":
    unittest.main()
