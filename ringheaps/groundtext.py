"""Grounds as texts and as tables."""

from ringheaps.errors import NoText
from ringheaps.ground import Ground
from ringheaps.words import is_name


def show_row(row):
    return " ".join([row[0] + ":"] + list(row[1]))


def show_ground(ground):
    return "\n".join([show_row(row) for row in ground.rows()])


def is_line(line):
    halves = line.split(":")
    if len(halves) != 2 or not is_name(halves[0]):
        return False
    # Each name has a blank ahead, so what stands ahead of the first blank has no signs.
    words = halves[1].split(" ")
    return words[0] == "" and all([is_name(word) for word in words[1:]])


def row_of(line):
    halves = line.split(":")
    return (halves[0], tuple(halves[1].split(" ")[1:]))


def read_ground(text):
    if not isinstance(text, str):
        raise NoText(0)
    lines = text.split("\n")
    for number, line in enumerate(lines):
        if not is_line(line):
            raise NoText(number)
    return Ground([row_of(line) for line in lines])


def drawn_row(ground, name):
    ends = ground.roads_from(name)
    return [name] + ["x" if other in ends else "." for other in ground.names()]


def drawn(ground):
    return [[""] + ground.names()] + [drawn_row(ground, name) for name in ground.names()]
