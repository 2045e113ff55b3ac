"""Worths: a number, or endless with a set of numbers."""

from ringheaps.bits import numbers_in, set_of, set_turned
from ringheaps.errors import NoWorth
from ringheaps.words import is_whole

MOST_NUMBER = 15
MOST_BITS = 65535


def is_number(thing):
    return is_whole(thing) and 0 <= thing and thing <= MOST_NUMBER


def is_set(thing):
    return is_whole(thing) and 0 <= thing and thing <= MOST_BITS


class Worth:
    pass


class Numbered(Worth):
    def __init__(self, number):
        if not is_number(number):
            raise NoWorth(number)
        self.number = number

    def told(self):
        return ("number", self.number)

    def text(self):
        return str(self.number)

    def plus(self, other):
        if other.is_endless():
            return other.plus(self)
        return Numbered(self.number ^ other.number)

    def outcome(self):
        if self.number == 0:
            return "lost"
        return "won"

    def is_endless(self):
        return False


class Endless(Worth):
    def __init__(self, bits):
        if not is_set(bits):
            raise NoWorth(bits)
        self.bits = bits

    def told(self):
        return ("endless", self.bits)

    def text(self):
        return " ".join(["endless"] + [str(number) for number in numbers_in(self.bits)])

    def plus(self, other):
        if other.is_endless():
            return Endless(0)
        return Endless(set_turned(self.bits, other.number))

    def outcome(self):
        if 0 in numbers_in(self.bits):
            return "won"
        return "drawn"

    def is_endless(self):
        return True


def number_texts():
    return [str(number) for number in range(MOST_NUMBER + 1)]


def read_endless(text):
    figures = number_texts()
    words = text.split(" ")[1:]
    if not all([word in figures for word in words]):
        raise NoWorth(text)
    worth = Endless(set_of([figures.index(word) for word in words]))
    # The first word may be another one, and the numbers may not rise.
    if worth.text() != text:
        raise NoWorth(text)
    return worth


def read_worth(text):
    if not isinstance(text, str):
        raise NoWorth(text)
    figures = number_texts()
    if text in figures:
        return Numbered(figures.index(text))
    return read_endless(text)


def sum_of(worths):
    total = Numbered(0)
    for worth in worths:
        total = total.plus(worth)
    return total
