"""Grounds: places with names, and one-way roads from place to place."""

from ringheaps.errors import NoGround, NoPlace, TooMany, Twice
from ringheaps.words import is_name

MOST_PLACES = 14
MOST_ROADS = 40


def is_tuple_of_names(thing):
    return isinstance(thing, tuple) and all([is_name(part) for part in thing])


def is_row(thing):
    if not isinstance(thing, tuple) or len(thing) != 2:
        return False
    return is_name(thing[0]) and is_tuple_of_names(thing[1])


def need_form(rows):
    if not isinstance(rows, list) or len(rows) == 0:
        raise NoGround(0)
    if len(rows) > MOST_PLACES:
        raise TooMany(len(rows))
    for number, row in enumerate(rows):
        if not is_row(row):
            raise NoGround(number)


def need_own_names(order):
    ahead = {}
    for name in order:
        if name in ahead:
            raise Twice(name)
        ahead[name] = True


def need_ends(ends, order):
    ahead = {}
    for name in ends:
        if name not in order:
            raise NoPlace(name)
        if name in ahead:
            raise Twice(name)
        ahead[name] = True


def need_few_roads(rows):
    many = sum([len(row[1]) for row in rows])
    if many > MOST_ROADS:
        raise TooMany(many)


def need_rows(rows):
    # The order of these checks is the order in which refusals are due.
    need_form(rows)
    order = [row[0] for row in rows]
    need_own_names(order)
    for row in rows:
        need_ends(row[1], order)
    need_few_roads(rows)


class Ground:
    def __init__(self, rows):
        need_rows(rows)
        self.order = [row[0] for row in rows]
        self.roads = {}
        for row in rows:
            self.roads[row[0]] = [name for name in self.order if name in row[1]]

    def names(self):
        return list(self.order)

    def roads_from(self, name):
        # A list or a dict can't be looked up in a dict, so the kind is asked first.
        if not is_name(name) or name not in self.roads:
            raise NoPlace(name)
        return list(self.roads[name])

    def rows(self):
        return [(name, tuple(self.roads[name])) for name in self.order]


def need_place(ground, thing):
    if thing not in ground.names():
        raise NoPlace(thing)


def is_dict_of_places(ground, thing):
    order = ground.names()
    if not isinstance(thing, dict) or len(thing) != len(order):
        return False
    return all([name in thing for name in order])
