"""Labels: the worth of each place, found number by number, in rounds."""

from ringheaps.bits import lacking, numbers_in, set_of
from ringheaps.ground import is_dict_of_places, need_place
from ringheaps.words import is_whole
from ringheaps.worths import Endless, Numbered, is_number, is_set


def numbers_behind(ground, numbered, name):
    return [numbered[end] for end in ground.roads_from(name) if end in numbered]


def gets_number(ground, numbered, name, number):
    # None has a greater number yet: where this one is the least lacking, roads lead to each lesser one and not to it.
    if lacking(numbers_behind(ground, numbered, name)) != number:
        return False
    bare = [end for end in ground.roads_from(name) if end not in numbered]
    return all([number in numbers_behind(ground, numbered, end) for end in bare])


def round_of(ground, numbered, number):
    bare = [name for name in ground.names() if name not in numbered]
    return [name for name in bare if gets_number(ground, numbered, name, number)]


def give_number(ground, numbered, number):
    rounds = []
    names = round_of(ground, numbered, number)
    while len(names) > 0:
        for name in names:
            numbered[name] = number
        rounds.append(names)
        names = round_of(ground, numbered, number)
    return rounds


def give_numbers(ground, numbered):
    rounds = []
    number = 0
    more = give_number(ground, numbered, number)
    while len(more) > 0:
        rounds.extend(more)
        number += 1
        more = give_number(ground, numbered, number)
    return rounds


def rounds_of(ground):
    return give_numbers(ground, {})


def labels_of(ground):
    numbered = {}
    steps = {}
    for step, names in enumerate(give_numbers(ground, numbered)):
        for name in names:
            steps[name] = step
    labels = {}
    for name in ground.names():
        if name in numbered:
            labels[name] = ("number", numbered[name], steps[name])
        else:
            labels[name] = ("endless", set_of(numbers_behind(ground, numbered, name)))
    return labels


def label_worth(label):
    if label[0] == "number":
        return Numbered(label[1])
    return Endless(label[1])


def worth_of(ground, name):
    need_place(ground, name)
    return label_worth(labels_of(ground)[name])


def is_label(thing):
    if not isinstance(thing, tuple):
        return False
    if len(thing) == 2:
        return thing[0] == "endless" and is_set(thing[1])
    if len(thing) != 3 or thing[0] != "number":
        return False
    return is_number(thing[1]) and is_whole(thing[2]) and thing[2] >= 0


def is_ahead(other, label):
    # Whether the other one has the same number, with a lesser step.
    return other[0] == "number" and other[1] == label[1] and other[2] < label[2]


def road_fits(ground, told, label, end):
    other = told[end]
    if other[0] == "number" and other[1] < label[1]:
        return other[2] < label[2]
    return any([is_ahead(told[back], label) for back in ground.roads_from(end)])


def told_numbers_behind(ground, told, name):
    return [told[end][1] for end in ground.roads_from(name) if told[end][0] == "number"]


def numbered_fits(ground, told, name):
    label = told[name]
    if label[1] != lacking(told_numbers_behind(ground, told, name)):
        return False
    return all([road_fits(ground, told, label, end) for end in ground.roads_from(name)])


def is_open_to(label, number):
    return label[0] == "endless" and number not in numbers_in(label[1])


def open_roads(ground, labels, name):
    least = lacking(numbers_in(labels[name][1]))
    return [(least, end) for end in ground.roads_from(name) if is_open_to(labels[end], least)]


def endless_fits(ground, told, name):
    if told[name][1] != set_of(told_numbers_behind(ground, told, name)):
        return False
    return len(open_roads(ground, told, name)) > 0


def label_fits(ground, told, name):
    if told[name][0] == "number":
        return numbered_fits(ground, told, name)
    return endless_fits(ground, told, name)


def shows(ground, told):
    if not is_dict_of_places(ground, told):
        return False
    # All labels are looked at before any is compared, for a wrong one may be anything.
    if not all([is_label(told[name]) for name in ground.names()]):
        return False
    return all([label_fits(ground, told, name) for name in ground.names()])


def open_road(ground, name):
    need_place(ground, name)
    labels = labels_of(ground)
    if labels[name][0] == "number":
        return None
    return open_roads(ground, labels, name)[0]
