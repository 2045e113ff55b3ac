import unittest

from helper import NO_NAMES
from ringheaps.words import is_name, is_whole

NO_NUMBERS = [
    True, False, None, "", "0", "1", "-1", "a", " ", "\n",
    [], [0], (), (0,), {}, {0: 0}, 1.0, 0.5, b"1", {1}, object(), int, len,
]


class WholeNumbers(unittest.TestCase):
    def test_whole_numbers_of_either_sign(self):
        for number in (0, 1, 2, 15, 65535, -1, -2, -65536):
            self.assertIs(is_whole(number), True, number)

    def test_whole_numbers_of_up_to_a_hundred_figures(self):
        for figures in range(1, 101):
            number = 10 ** figures - 1
            self.assertIs(is_whole(number), True, number)
            self.assertIs(is_whole(-number), True, -number)

    def test_other_things(self):
        for thing in NO_NUMBERS:
            self.assertIs(is_whole(thing), False, repr(thing))


class Names(unittest.TestCase):
    def test_each_small_letter_is_a_name(self):
        for letter in "abcdefghijklmnopqrstuvwxyz":
            self.assertIs(is_name(letter), True, letter)

    def test_texts_of_small_letters_by_their_length(self):
        for many in range(0, 11):
            for letters in ("abcdefghij", "zyxwvutsrq", "aaaaaaaaaa"):
                self.assertIs(is_name(letters[:many]), 1 <= many <= 8, letters[:many])

    def test_each_other_sign_alone_and_among_letters(self):
        signs = [chr(code) for code in range(32, 127)] + ["\n"]
        for sign in signs:
            if "a" <= sign <= "z":
                continue
            for text in (sign, sign + "a", "a" + sign, "ab" + sign + "cd", "abcdefg" + sign):
                self.assertIs(is_name(text), False, repr(text))

    def test_other_things(self):
        for thing in NO_NAMES + [1.0, b"a", {"a"}, object(), str, len]:
            self.assertIs(is_name(thing), False, repr(thing))


if __name__ == "__main__":
    unittest.main()
