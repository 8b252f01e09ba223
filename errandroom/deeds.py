"""Deeds: what a program does at a place, as a room would do it, with keys for slots and places for rooms.

A deed is a pair of rows and a door; where the door is a go, whatever is done at its place may follow in the same room.
"""

from errandroom.places import (
    behind,
    dos_around,
    fall_at,
    first_of,
    is_between,
    number_at,
    off_at,
    round_of,
    row_at,
    slid,
    word_at,
)
from errandroom.programs import formula_names, formulas_of
from errandroom.rooms import door_leads
from errandroom.slots import key_of

# The doors at which a fault may come up, and those at which a house may go out.
FALLING = ("fail", "round", "want", "out")
LEAVING = ("want", "out")


# Of a place that slides nowhere else.
def deed_at(errand, place):
    row = row_at(errand, place)
    if row is not None:
        return row_deed(errand, place, row)
    if is_between(place):
        return between_deed(errand, place[:-1])
    if len(place) == 1:
        return ((), ("give", 0))
    outer = place[:-2]
    d = number_at(errand, outer)
    if place[-2] == 0:
        return ((("mark", "done", d),), ("go", behind(outer)))
    return ((("mark", "undone", d),), ("out", key_of(d)))


def between_deed(errand, place):
    if word_at(errand, place) == "while":
        return ((), ("round", first_of(place, 0)))
    return ((("mark", "undo", number_at(errand, place)),), ("go", first_of(place, 1)))


def row_deed(errand, place, row):
    word = row[0]
    if word == "set":
        return ((("put", row[1], row[2]),), ("go", behind(place)))
    if word == "tell":
        return ((("tell", row[1]),), ("go", behind(place)))
    if word == "give":
        return (tuple([("mark", "done", d) for d in dos_around(errand, place)]), ("give", row[1]))
    if word == "fail":
        return ((), ("fail", row[1]))
    if word == "if":
        return ((), ("fork", row[1], first_of(place, 0), first_of(place, 1)))
    if word == "while":
        return ((), ("fork", row[1], round_of(place), behind(place)))
    if word == "do":
        return ((("mark", "do", number_at(errand, place)),), ("go", first_of(place, 0)))
    return ((), ("want", row[1], row[2], behind(place)))


# The fall of the place, where a fault may come up at the door.
def fall_due(errand, place, door):
    return fall_at(errand, place) if door[0] in FALLING else None


# The off of the place, where a house may go out at the door.
def off_due(errand, place, door):
    return off_at(errand, place) if door[0] in LEAVING else None


# The key that a fault sets on its way; None where a catch has no name.
def key_of_fall(fall):
    return key_of(fall[1]) if fall[0] == "undo" else fall[1]


# The key that is set on the way to the beginning of an undoing.
def key_of_off(errand, beginning):
    return key_of(number_at(errand, beginning[:-1]))


# The keys that are read by what is done at a place.
def read_at(errand, place):
    row = row_at(errand, place)
    if row is not None:
        return row_names(row)
    door = deed_at(errand, place)[1]
    return [door[1]] if door[0] == "out" else []


def row_names(row):
    names = []
    for one in formulas_of(row):
        names.extend(formula_names(one))
    return names


# Where what is done at a place leads: pairs of a place (slid) and the keys that are set on the way there.
def leads_at(errand, place):
    deed = deed_at(errand, place)
    found = [(there, set_by(deed)) for there in door_leads(deed[1])]
    fall = fall_due(errand, place, deed[1])
    if fall is not None:
        found.append((fall[2], [key for key in [key_of_fall(fall)] if key is not None]))
    off = off_due(errand, place, deed[1])
    if off is not None and off != "shut":
        found.append((off, [key_of_off(errand, off)]))
    return [(slid(errand, there), keys) for there, keys in found]


# The names that surely are set when the deed leads on by its door.
def set_by(deed):
    names = [row[1] for row in deed[0] if row[0] == "put"]
    door = deed[1]
    if door[0] == "want" and door[1] == len(door[2]):
        names.extend([branch[0] for branch in door[2] if branch[0] is not None])
    return names
