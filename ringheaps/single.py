"""One token alone on each place: how it ends, and in how many moves."""

from ringheaps.ground import is_dict_of_places
from ringheaps.words import is_whole

DRAWN = ("drawn", None)


def settled_in(ground, table, number):
    # The table has all that is settled in fewer moves, so what comes of it now is settled in just so many.
    settled = {}
    for name in ground.names():
        if name in table:
            continue
        ends = ground.roads_from(name)
        words = [table[end][0] for end in ends if end in table]
        if "lost" in words:
            settled[name] = ("won", number)
        elif len(words) == len(ends):
            settled[name] = ("lost", number)
    return settled


def settled_places(ground):
    table = {}
    number = 0
    settled = settled_in(ground, table, number)
    while len(settled) > 0:
        table.update(settled)
        number += 1
        settled = settled_in(ground, table, number)
    return table


def table_of(ground):
    settled = settled_places(ground)
    table = {}
    for name in ground.names():
        table[name] = settled.get(name, DRAWN)
    return table


def is_entry(thing):
    if not isinstance(thing, tuple) or len(thing) != 2:
        return False
    if thing[0] == "drawn":
        return thing[1] is None
    return thing[0] in ("lost", "won") and is_whole(thing[1]) and thing[1] >= 0


def entry_fits(entry, behind):
    lost = [other[1] for other in behind if other[0] == "lost"]
    won = [other[1] for other in behind if other[0] == "won"]
    if entry[0] == "lost":
        return len(won) == len(behind) and entry[1] == 1 + max(won, default=-1)
    if entry[0] == "won":
        return len(lost) > 0 and entry[1] == 1 + min(lost)
    return len(lost) == 0 and DRAWN in behind


def place_fits(ground, told, name):
    return entry_fits(told[name], [told[end] for end in ground.roads_from(name)])


def shows_single(ground, told):
    if not is_dict_of_places(ground, told):
        return False
    # All entries are looked at before any is compared, for a wrong one may be anything.
    if not all([is_entry(told[name]) for name in ground.names()]):
        return False
    return all([place_fits(ground, told, name) for name in ground.names()])


def entry_behind_best(entry):
    if entry[0] == "drawn":
        return entry
    if entry[0] == "won":
        return ("lost", entry[1] - 1)
    return ("won", entry[1] - 1)


def best_moves(ground, name):
    ends = ground.roads_from(name)
    table = table_of(ground)
    sought = entry_behind_best(table[name])
    return [end for end in ends if table[end] == sought]
