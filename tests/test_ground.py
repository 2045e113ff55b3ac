import unittest

from helper import NO_NAMES, ROWS_OF_GROUNDS, RefusalCase, in_order, rows_with
from ringheaps.errors import NoGround, NoPlace, TooMany, Twice
from ringheaps.ground import Ground


class MadeGrounds(unittest.TestCase):
    def test_names_in_the_places_order(self):
        for rows in ROWS_OF_GROUNDS:
            self.assertEqual(Ground(rows).names(), [name for name, ends in rows])

    def test_roads_in_the_places_order(self):
        for rows in ROWS_OF_GROUNDS:
            ground = Ground(rows)
            for name, ends in in_order(rows):
                self.assertEqual(ground.roads_from(name), list(ends))

    def test_rows_with_roads_in_the_places_order(self):
        for rows in ROWS_OF_GROUNDS:
            self.assertEqual(Ground(rows).rows(), in_order(rows))

    def test_a_ground_by_hand(self):
        ground = Ground([("z", ("m", "a", "z")), ("a", ("z", "m")), ("m", ("a",))])
        self.assertEqual(ground.names(), ["z", "a", "m"])
        self.assertEqual(ground.roads_from("z"), ["z", "a", "m"])
        self.assertEqual(ground.roads_from("a"), ["z", "m"])
        self.assertEqual(ground.roads_from("m"), ["a"])
        self.assertEqual(ground.rows(), [("z", ("z", "a", "m")), ("a", ("z", "m")), ("m", ("a",))])

    def test_the_order_in_which_roads_are_handed_in_is_free(self):
        for rows in ROWS_OF_GROUNDS:
            turned = [(name, tuple(reversed(ends))) for name, ends in rows]
            self.assertEqual(Ground(turned).rows(), Ground(rows).rows())

    def test_a_ground_of_told_rows_tells_the_same(self):
        for rows in ROWS_OF_GROUNDS:
            told = Ground(rows).rows()
            self.assertEqual(Ground(told).rows(), told)

    def test_kinds_of_what_is_told(self):
        ground = Ground(rows_with(3, 5))
        self.assertIs(type(ground.names()), list)
        self.assertIs(type(ground.roads_from("a")), list)
        self.assertIs(type(ground.rows()), list)
        for row in ground.rows():
            self.assertIs(type(row), tuple)
            self.assertIs(type(row[1]), tuple)


class NoPlaces(RefusalCase):
    def test_what_is_no_name_is_no_place(self):
        ground = Ground(rows_with(14, 40))
        for thing in NO_NAMES:
            self.assert_refused(NoPlace, thing, ground.roads_from, thing)

    def test_a_name_of_no_place(self):
        for rows in ROWS_OF_GROUNDS:
            ground = Ground(rows)
            for name in ("o", "zz", "aaaa", "hgfedcba"):
                self.assert_refused(NoPlace, name, ground.roads_from, name)


class RefusedRows(RefusalCase):
    def refuse(self, kind, field, rows):
        self.assert_refused(kind, field, Ground, rows)

    def test_what_is_no_list(self):
        for thing in (None, True, False, 0, 5, -10 ** 99, "", "a", "a: a", (), (("a", ()),), {}, {"a": ()}, {0: ("a", ())}):
            self.refuse(NoGround, 0, thing)

    def test_the_list_without_things(self):
        self.refuse(NoGround, 0, [])

    def test_too_many_things(self):
        for many in (15, 16, 26):
            self.refuse(TooMany, many, rows_with(many, 0))
        self.refuse(TooMany, 15, [None] * 15)
        self.refuse(TooMany, 300, [("a", ())] * 300)

    def test_things_that_are_no_rows(self):
        bad = [
            None, True, 0, "ab", "a", [], ["a", ()], {}, {"a": ()}, (), ("a",), ((),), ("a", (), ()), ("a", "b", "c"),
            ("a", ["a"]), ("a", []), ("a", "a"), ("a", None), ("a", {}), ("a", {"a": True}), ((), "a"),
        ]
        bad += [(thing, ()) for thing in NO_NAMES]
        bad += [("a", (thing,)) for thing in NO_NAMES]
        bad += [("a", ("a", thing, "b")) for thing in NO_NAMES]
        for thing in bad:
            self.refuse(NoGround, 0, [thing])
            self.refuse(NoGround, 2, [("x", ("y",)), ("y", ()), thing, ("z", ())])
            self.refuse(NoGround, 13, rows_with(14, 0)[:13] + [thing])
            self.refuse(NoGround, 1, [("x", ()), thing, None])

    def test_a_place_twice(self):
        self.refuse(Twice, "a", [("a", ()), ("a", ())])
        self.refuse(Twice, "b", [("a", ()), ("b", ("a",)), ("c", ()), ("b", ())])
        self.refuse(Twice, "b", [("a", ()), ("b", ()), ("b", ()), ("a", ())])
        self.refuse(Twice, "a", [("a", ()), ("b", ()), ("a", ()), ("b", ())])
        self.refuse(Twice, "m", rows_with(13, 20) + [("m", ())])

    def test_a_road_to_no_place(self):
        self.refuse(NoPlace, "b", [("a", ("b",))])
        self.refuse(NoPlace, "c", [("a", ("b", "c", "d")), ("b", ("e",))])
        self.refuse(NoPlace, "aa", [("a", ("a",)), ("b", ("a", "aa"))])
        self.refuse(NoPlace, "o", rows_with(14, 14)[:13] + [("n", ("a", "n", "o"))])

    def test_a_road_twice_in_one_row(self):
        self.refuse(Twice, "a", [("a", ("a", "a"))])
        self.refuse(Twice, "b", [("a", ("b", "a", "b", "a")), ("b", ())])
        self.refuse(Twice, "a", [("a", ("b", "a", "a", "b")), ("b", ())])
        self.refuse(Twice, "c", [("a", ("a", "b", "c")), ("b", ("a", "b", "c")), ("c", ("c", "a", "c"))])

    def test_too_many_roads(self):
        for places, roads in ((14, 41), (14, 42), (14, 196), (7, 41), (7, 49)):
            self.refuse(TooMany, roads, rows_with(places, roads))


class WhichFaultIsDue(RefusalCase):
    def refuse(self, kind, field, rows):
        self.assert_refused(kind, field, Ground, rows)

    def test_too_many_things_ahead_of_all_in_them(self):
        self.refuse(TooMany, 15, rows_with(14, 0) + [None])
        self.refuse(TooMany, 15, rows_with(14, 41) + [("a", ("zz",))])
        self.refuse(TooMany, 15, rows_with(15, 45))

    def test_no_row_ahead_of_names_and_roads(self):
        self.refuse(NoGround, 2, [("a", ()), ("a", ()), None])
        self.refuse(NoGround, 1, [("a", ("b", "b")), ("b", ["a"])])
        self.refuse(NoGround, 1, [("a", ("zz",)), ("b", ("B",))])
        self.refuse(NoGround, 13, rows_with(14, 182)[:13] + [("n",)])

    def test_a_place_twice_ahead_of_roads(self):
        self.refuse(Twice, "a", [("a", ("zz",)), ("a", ())])
        self.refuse(Twice, "b", [("a", ("a", "a")), ("b", ()), ("b", ())])
        self.refuse(Twice, "a", rows_with(13, 169) + [("a", ())])

    def test_roads_row_by_row(self):
        self.refuse(Twice, "a", [("a", ("a", "a")), ("b", ("zz",))])
        self.refuse(NoPlace, "zz", [("a", ("zz",)), ("b", ("a", "a"))])

    def test_roads_name_by_name(self):
        self.refuse(Twice, "a", [("a", ("a", "a", "zz"))])
        self.refuse(NoPlace, "zz", [("a", ("a", "zz", "a"))])
        self.refuse(NoPlace, "zz", [("a", ("zz", "zz"))])

    def test_each_road_ahead_of_too_many_roads(self):
        crowded = rows_with(14, 182)
        self.refuse(NoPlace, "zz", crowded[:13] + [("n", ("a", "zz"))])
        self.refuse(Twice, "a", crowded[:13] + [("n", ("a", "a"))])


class OwnValues(RefusalCase):
    ROWS = [("z", ("m", "a", "z")), ("a", ("z", "m")), ("m", ())]

    def assert_as_ever(self, ground):
        self.assertEqual(ground.names(), ["z", "a", "m"])
        self.assertEqual(ground.roads_from("z"), ["z", "a", "m"])
        self.assertEqual(ground.roads_from("a"), ["z", "m"])
        self.assertEqual(ground.roads_from("m"), [])
        self.assertEqual(ground.rows(), [("z", ("z", "a", "m")), ("a", ("z", "m")), ("m", ())])
        self.assert_refused(NoPlace, "b", ground.roads_from, "b")

    def test_what_is_handed_in_is_not_changed(self):
        for rows in ROWS_OF_GROUNDS:
            handed = list(rows)
            ground = Ground(handed)
            ground.names()
            ground.rows()
            ground.roads_from(rows[0][0])
            self.assertEqual(handed, rows)

    def test_the_list_handed_in_is_changed_behind_the_call(self):
        for change in (list.clear, list.reverse, lambda rows: rows.append(("b", ())), lambda rows: rows.pop(0)):
            handed = list(self.ROWS)
            ground = Ground(handed)
            change(handed)
            self.assert_as_ever(ground)

    def test_lists_told_are_changed(self):
        ground = Ground(list(self.ROWS))
        asks = (ground.names, ground.rows, lambda: ground.roads_from("z"), lambda: ground.roads_from("m"))
        for ask in asks:
            for change in (list.clear, list.reverse, lambda told: told.append("b")):
                change(ask())
                self.assert_as_ever(ground)

    def test_lists_told_are_new_each_time(self):
        ground = Ground(list(self.ROWS))
        self.assertIsNot(ground.names(), ground.names())
        self.assertIsNot(ground.rows(), ground.rows())
        self.assertIsNot(ground.roads_from("z"), ground.roads_from("z"))

    def test_two_grounds_do_not_share(self):
        handed = list(self.ROWS)
        one = Ground(handed)
        other = Ground(handed)
        one.names().clear()
        one.roads_from("z").clear()
        self.assert_as_ever(other)
        Ground([("b", ("b",))])
        self.assert_as_ever(one)

    def test_a_refusal_changes_nothing(self):
        ground = Ground(list(self.ROWS))
        thing = ["z"]
        self.assert_refused(NoPlace, ["z"], ground.roads_from, thing)
        self.assertEqual(thing, ["z"])
        self.assert_as_ever(ground)


if __name__ == "__main__":
    unittest.main()
