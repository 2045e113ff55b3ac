import itertools
import unittest

from helper import RefusalCase
from ringheaps.bits import numbers_in
from ringheaps.errors import NoWorth
from ringheaps.worths import Endless, Numbered, Worth, read_worth, sum_of

SETS = [0, 1, 2, 3, 5, 10, 255, 256, 1024, 4097, 32768, 40000, 65534, 65535]

NO_NUMBERS_AT_ALL = [
    True, False, None, "", "0", "1", "15", "endless", "a", " ", [], [0], [1, 2], (), (0,), ("number", 0), {}, {0: 0},
    {"a": []}, [[]], "x" * 2000, -1, -2, -16, 65536, 65537, 10 ** 99, -10 ** 99,
]

# Each pair: a worth as a tuple, and its text.
TEXTS = [
    (("number", 0), "0"), (("number", 9), "9"), (("number", 10), "10"), (("number", 15), "15"),
    (("endless", 0), "endless"), (("endless", 1), "endless 0"), (("endless", 5), "endless 0 2"),
    (("endless", 32768), "endless 15"), (("endless", 1026), "endless 1 10"),
    (("endless", 65535), "endless 0 1 2 3 4 5 6 7 8 9 10 11 12 13 14 15"),
]

NO_TEXTS = [
    "", " ", "\n", "16", "17", "99", "100", "-1", "-0", "+1", "00", "01", "007", "015", " 0", "0 ", "0\n", "\n0", "1 2",
    "0 0", "0x1", "1.0", "1_0", "a", "x", "number", "number 1", "Endless", "ENDLESS", "endles", "endlesss", "eendless",
    "endless ", " endless", "endless\n", "\nendless", "endless  ", "endless  0", "endless 0 ", " endless 0",
    "endless  0 2", "endless 0  2", "endless 0 2 ", "endless 00", "endless 01", "endless 0 02", "endless 2 0",
    "endless 10 2", "endless 1 10 2", "endless 0 0", "endless 2 2", "endless 0 2 2", "endless 16", "endless 0 16",
    "endless -1", "endless +1", "endless a", "endless 0 a", "endless0", "endless0 2", "endless 0,2", "endless, 0",
    "endless 0 2.", "endless\n0", "endless 0\n2", "endless endless", "0 endless", "5 endless", "less 0", "end 0 2",
    "('number', 0)", "9" * 2000, "endless " + "9" * 1900, "endless" + " 0" * 900,
]

NO_TEXTS_AT_ALL = [
    0, 1, 15, 16, -1, 10 ** 99, True, False, None, [], ["0"], ["endless"], ["endless", "0"], (), ("0",), ("number", 0),
    ("endless", 0), {}, {"0": "0"}, {"endless": 0}, [[]],
]


def all_worths():
    return [Numbered(number) for number in range(16)] + [Endless(bits) for bits in SETS]


def made(told):
    return Numbered(told[1]) if told[0] == "number" else Endless(told[1])


class MadeWorths(RefusalCase):
    def test_each_number(self):
        for number in range(16):
            worth = Numbered(number)
            self.assertEqual(worth.number, number)
            self.assertEqual(worth.told(), ("number", number))
            self.assertEqual(worth.text(), str(number))
            self.assertIs(worth.is_endless(), False)
            self.assertEqual(worth.outcome(), "won" if number else "lost")

    def test_several_sets(self):
        for bits in SETS:
            worth = Endless(bits)
            self.assertEqual(worth.bits, bits)
            self.assertEqual(worth.told(), ("endless", bits))
            self.assertEqual(worth.text(), "endless" + "".join(" " + str(number) for number in numbers_in(bits)))
            self.assertIs(worth.is_endless(), True)
            self.assertEqual(worth.outcome(), "won" if bits % 2 else "drawn")

    def test_texts_by_hand(self):
        for told, text in TEXTS:
            self.assertEqual(made(told).text(), text)

    def test_kinds(self):
        self.assertEqual(Numbered.__bases__, (Worth,))
        self.assertEqual(Endless.__bases__, (Worth,))
        for worth in all_worths():
            self.assertIs(type(worth.told()), tuple)
            self.assertIs(type(worth.told()[1]), int)
            self.assertIs(type(worth.text()), str)

    def test_what_is_no_number(self):
        for thing in NO_NUMBERS_AT_ALL + [16, 17, 100, 65535]:
            self.assert_refused(NoWorth, thing, Numbered, thing)

    def test_what_is_no_set(self):
        for thing in NO_NUMBERS_AT_ALL:
            self.assert_refused(NoWorth, thing, Endless, thing)


class ReadWorths(RefusalCase):
    def test_texts_by_hand(self):
        for told, text in TEXTS:
            worth = read_worth(text)
            self.assertIs(type(worth), Numbered if told[0] == "number" else Endless)
            self.assertEqual(worth.told(), told)

    def test_each_text_is_read_again(self):
        worths = [Numbered(number) for number in range(16)] + [Endless(bits) for bits in range(0, 65536, 37)]
        for worth in worths + all_worths():
            again = read_worth(worth.text())
            self.assertIs(type(again), type(worth))
            self.assertEqual(again.told(), worth.told())
            self.assertEqual(again.text(), worth.text())

    def test_other_texts(self):
        for text in NO_TEXTS:
            self.assert_refused(NoWorth, text, read_worth, text)

    def test_a_sign_more_or_less(self):
        texts = {worth.text() for worth in [Endless(bits) for bits in range(65536)] + all_worths()}
        for text in [worth.text() for worth in all_worths()]:
            near = [text + sign for sign in " 0a\n,"] + [sign + text for sign in " 0a\n-"]
            near += [text[:place] + text[place + 1:] for place in range(len(text))]
            near += [text[:place] + " " + text[place:] for place in range(len(text))]
            for other in near:
                if other in texts:
                    self.assertEqual(read_worth(other).text(), other)
                else:
                    self.assert_refused(NoWorth, other, read_worth, other)

    def test_what_is_no_text(self):
        for thing in NO_TEXTS_AT_ALL:
            self.assert_refused(NoWorth, thing, read_worth, thing)


def added(one, other):
    """Promise 45, of tuples."""
    if one[0] == "number" and other[0] == "number":
        return ("number", one[1] ^ other[1])
    if one[0] == "endless" and other[0] == "endless":
        return ("endless", 0)
    bits = one[1] if one[0] == "endless" else other[1]
    number = one[1] if one[0] == "number" else other[1]
    return ("endless", sum(2 ** (member ^ number) for member in range(16) if bits // 2 ** member % 2))


class Sums(unittest.TestCase):
    def test_sums_by_hand(self):
        self.assertEqual(Numbered(6).plus(Numbered(3)).told(), ("number", 5))
        self.assertEqual(Numbered(15).plus(Numbered(15)).told(), ("number", 0))
        self.assertEqual(Numbered(1).plus(Endless(5)).told(), ("endless", 10))
        self.assertEqual(Endless(5).plus(Numbered(1)).told(), ("endless", 10))
        self.assertEqual(Endless(5).plus(Endless(5)).told(), ("endless", 0))
        self.assertEqual(Endless(65535).plus(Endless(1)).told(), ("endless", 0))

    def test_all_pairs(self):
        for one, other in itertools.product(all_worths(), repeat=2):
            total = one.plus(other)
            self.assertEqual(total.told(), added(one.told(), other.told()))
            self.assertEqual(other.plus(one).told(), total.told())
            self.assertIs(type(total), Numbered if total.told()[0] == "number" else Endless)
            self.assertEqual(sum_of([one, other]).told(), total.told())

    def test_lists(self):
        self.assertEqual(sum_of([]).told(), ("number", 0))
        self.assertIs(type(sum_of([])), Numbered)
        for worth in all_worths():
            self.assertEqual(sum_of([worth]).told(), worth.told())
        self.assertEqual(sum_of([Numbered(number) for number in (1, 2, 4, 8, 15)]).told(), ("number", 0))
        self.assertEqual(sum_of([Numbered(7)] * 3).told(), ("number", 7))

    def test_lists_in_all_orders(self):
        lists = [
            ([Numbered(3), Numbered(5), Numbered(9)], ("number", 15)),
            ([Numbered(3), Endless(1), Numbered(1)], ("endless", 4)),
            ([Numbered(3), Endless(6), Numbered(1), Numbered(2)], ("endless", 6)),
            ([Endless(1), Numbered(1), Endless(2)], ("endless", 0)),
            ([Endless(65535), Endless(65535), Numbered(4), Endless(3)], ("endless", 0)),
        ]
        for worths, told in lists:
            for order in itertools.permutations(worths):
                self.assertEqual(sum_of(list(order)).told(), told)


class OwnWorths(RefusalCase):
    def test_worths_never_change(self):
        worths = all_worths()
        before = [(worth.told(), worth.text(), worth.outcome(), worth.is_endless()) for worth in worths]
        handed = list(worths)
        for worth in worths:
            for other in worths:
                worth.plus(other)
        sum_of(handed)
        self.assertEqual(len(handed), len(worths))
        for one, other in zip(handed, worths):
            self.assertIs(one, other)
        after = [(worth.told(), worth.text(), worth.outcome(), worth.is_endless()) for worth in worths]
        self.assertEqual(after, before)

    def test_the_list_handed_in_is_changed(self):
        handed = [Numbered(3), Numbered(5)]
        total = sum_of(handed)
        handed.append(Endless(0))
        self.assertEqual(total.told(), ("number", 6))
        self.assertEqual(sum_of([Numbered(3), Numbered(5)]).told(), ("number", 6))


if __name__ == "__main__":
    unittest.main()
