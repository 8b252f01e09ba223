"""Makings: of each errand a machine with a room for each place at which something is done, and a slot for each key."""

from errandroom.deeds import deed_at, fall_due, key_of_fall, off_due
from errandroom.places import numbers_of, places, slid
from errandroom.programs import names_of
from errandroom.slots import do_keys, key_of, slotted


def made(program):
    pairs = [made_pair(errand) for errand in program]
    return (tuple([machine for machine, paper in pairs]), tuple([paper for machine, paper in pairs]))


def made_pair(errand):
    held = own_slots(errand)
    there = room_places(errand)
    numbers = {}
    for place in places(errand):
        numbers[place] = there.index(slid(errand, place))
    rooms = [made_room(errand, place, held, numbers) for place in there]
    paper = [(place, kept_at(errand, place, held)) for place in there]
    return ((errand[0], len(errand[1]), len(held), tuple(rooms)), tuple(paper))


# Params lie where they are handed in; each key lies in its slot for ever.
def own_slots(errand):
    others = [name for name in names_of(errand) if name not in errand[1]]
    held = {}
    for slot, key in enumerate(list(errand[1]) + others + do_keys(errand)):
        held[key] = slot
    return held


# All places that slide nowhere else, the one where the errand begins ahead of the others.
def room_places(errand):
    first = slid(errand, (0,))
    return [first] + [place for place in places(errand) if place != first and slid(errand, place) == place]


# All names are held everywhere, the number of a do from the beginning of its undoing to its end.
def kept_at(errand, place, held):
    keys = list(names_of(errand))
    for outer, d in numbers_of(errand):
        if place[:len(outer) + 1] == outer + (1,):
            keys.append(key_of(d))
    return tuple(sorted([(key, held[key]) for key in keys]))


def made_room(errand, place, held, numbers):
    deed = deed_at(errand, place)
    rows = [made_row(row, held) for row in deed[0]]
    fall = made_fall(fall_due(errand, place, deed[1]), held, numbers)
    off = off_due(errand, place, deed[1])
    return (tuple(rows), made_door(deed[1], held, held, numbers), fall, numbers.get(off, off))


def made_row(row, held):
    if row[0] == "put":
        return ("put", held[row[1]], slotted(row[2], held))
    if row[0] == "tell":
        return ("tell", slotted(row[1], held))
    return row


# What a want sets is told by its own slots, those of the names that are held behind it.
def made_door(door, held, set_behind, numbers):
    word = door[0]
    if word in ("go", "round"):
        return (word, numbers[door[1]])
    if word == "fork":
        return (word, slotted(door[1], held), numbers[door[2]], numbers[door[3]])
    if word == "out":
        return (word, held[door[1]])
    if word == "want":
        return (word, door[1], tuple([made_branch(branch, held, set_behind) for branch in door[2]]), numbers[door[3]])
    return (word, slotted(door[1], held))


def made_branch(branch, held, set_behind):
    slot = set_behind.get(branch[0])
    if branch[1] == "ask":
        return (slot, "ask", branch[2], slotted(branch[3], held))
    return (slot, "call", branch[2], tuple([slotted(one, held) for one in branch[3]]))


def made_fall(fall, held, numbers):
    return None if fall is None else (held.get(key_of_fall(fall)), numbers[fall[2]])
