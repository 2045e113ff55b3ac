import itertools
import unittest

from ringheaps.bits import lacking, numbers_in, set_of, set_turned, summed

GREAT = [10 ** 30 - 1, 10 ** 29, 2 ** 99, 2 ** 99 - 1, 2 ** 64, 123456789012345678901234567890]

LISTS = [
    [], [0], [1], [0, 0], [1, 1], [7, 7, 7], [0, 1], [1, 0], [0, 1, 2, 3], [3, 2, 1, 0], [0, 2], [1, 2, 3], [5, 9, 12],
    [0, 1, 1, 0, 2, 4], list(range(16)), list(range(15, -1, -1)), [0] * 100, list(range(100)), [15, 0, 15],
    [8, 4, 2, 1],
]


def sum_bit_by_bit(numbers):
    total = 0
    for place in range(110):
        if sum(number // 2 ** place % 2 for number in numbers) % 2 == 1:
            total += 2 ** place
    return total


class Sums(unittest.TestCase):
    def test_sums_by_hand(self):
        self.assertEqual(summed([]), 0)
        self.assertEqual(summed([6]), 6)
        self.assertEqual(summed([6, 3]), 5)
        self.assertEqual(summed([6, 6]), 0)
        self.assertEqual(summed([1, 2, 4, 8]), 15)
        self.assertEqual(summed([7, 7, 7]), 7)
        self.assertEqual(summed([2 ** 99, 2 ** 99 - 1]), 2 ** 100 - 1)

    def test_sums_bit_by_bit(self):
        for numbers in LISTS + [GREAT, GREAT[:3], GREAT + [1, 2], GREAT + GREAT, GREAT[:1]]:
            self.assertEqual(summed(numbers), sum_bit_by_bit(numbers), numbers)

    def test_all_pairs(self):
        for pair in itertools.product(range(20), repeat=2):
            self.assertEqual(summed(list(pair)), sum_bit_by_bit(pair))


class LeastLackingNumbers(unittest.TestCase):
    def test_numbers_by_hand(self):
        self.assertEqual(lacking([]), 0)
        self.assertEqual(lacking([0]), 1)
        self.assertEqual(lacking([1]), 0)
        self.assertEqual(lacking([1, 1, 0, 0]), 2)
        self.assertEqual(lacking([3, 1, 0, 5]), 2)
        self.assertEqual(lacking(list(range(50, -1, -1))), 51)
        self.assertEqual(lacking(GREAT), 0)
        self.assertEqual(lacking(GREAT + [1, 0]), 2)

    def test_numbers_by_what_they_are(self):
        for numbers in LISTS + list(map(list, itertools.product(range(5), repeat=4))):
            least = lacking(numbers)
            self.assertNotIn(least, numbers)
            for lesser in range(least):
                self.assertIn(lesser, numbers)


class Sets(unittest.TestCase):
    def test_sets_by_hand(self):
        self.assertEqual(set_of([]), 0)
        self.assertEqual(set_of([0]), 1)
        self.assertEqual(set_of([2, 0]), 5)
        self.assertEqual(set_of([0, 2, 2, 0, 0]), 5)
        self.assertEqual(set_of([15]), 32768)
        self.assertEqual(set_of(list(range(16))), 65535)
        self.assertEqual(set_of(list(range(15, -1, -1)) * 2), 65535)

    def test_numbers_by_hand(self):
        self.assertEqual(numbers_in(0), [])
        self.assertEqual(numbers_in(1), [0])
        self.assertEqual(numbers_in(5), [0, 2])
        self.assertEqual(numbers_in(32768), [15])
        self.assertEqual(numbers_in(32769), [0, 15])
        self.assertEqual(numbers_in(65535), list(range(16)))

    def test_each_set(self):
        for bits in range(65536):
            numbers = numbers_in(bits)
            self.assertEqual(sum(2 ** number for number in numbers), bits)
            self.assertEqual(numbers, sorted(set(numbers)))
            self.assertEqual(set_of(numbers), bits)
            numbers.reverse()
            self.assertEqual(set_of(numbers + numbers[:3]), bits)


class TurnedSets(unittest.TestCase):
    def test_turned_by_hand(self):
        self.assertEqual(set_turned(5, 0), 5)
        self.assertEqual(set_turned(5, 1), 10)
        self.assertEqual(set_turned(5, 2), 5)
        self.assertEqual(set_turned(1, 15), 32768)
        self.assertEqual(set_turned(32768, 15), 1)

    def test_each_number_to_turn_by(self):
        for number in range(16):
            self.assertEqual(set_turned(0, number), 0)
            self.assertEqual(set_turned(65535, number), 65535)
            for bits in list(range(300)) + list(range(300, 65536, 997)) + [32768, 65534]:
                turned = set_turned(bits, number)
                members = {sum_bit_by_bit([member, number]) for member in range(16) if bits // 2 ** member % 2}
                self.assertEqual(turned, sum(2 ** member for member in members))
                self.assertEqual(set_turned(turned, number), bits)


class OwnNumbers(unittest.TestCase):
    def test_what_is_handed_in_is_not_changed(self):
        for numbers in LISTS:
            for ask in (summed, lacking):
                handed = list(numbers)
                told = ask(handed)
                self.assertEqual(handed, numbers)
                self.assertIs(type(told), int)
                self.assertEqual(ask(handed), told)
                handed.append(3)
                ask(handed)
                self.assertEqual(ask(list(numbers)), told)
        handed = [3, 1, 3]
        self.assertEqual(set_of(handed), 10)
        self.assertEqual(handed, [3, 1, 3])

    def test_what_was_told_is_changed(self):
        for bits in (0, 5, 65535):
            before = list(numbers_in(bits))
            for change in (list.clear, list.reverse, lambda told: told.append(7)):
                told = numbers_in(bits)
                self.assertIs(type(told), list)
                change(told)
                self.assertEqual(numbers_in(bits), before)


if __name__ == "__main__":
    unittest.main()
