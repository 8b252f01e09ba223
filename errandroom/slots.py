"""Keys of an errand, its names and the numbers of its dos, and the slots that hold them: dicts from keys to slots."""

from errandroom.places import numbers_of
from errandroom.programs import names_of


# A word has no figures, so no name is taken for a number.
def key_of(d):
    return str(d)


def keys_of(errand):
    return tuple(sorted(list(names_of(errand)) + do_keys(errand)))


def do_keys(errand):
    return [key_of(d) for place, d in numbers_of(errand)]


# An E with slots in the place of its names. For a name that is not held None stands in it, as in no E of a machine.
def slotted(one, held):
    if isinstance(one, str):
        return ("slot", held[one]) if one in held else None
    if isinstance(one, tuple):
        return (one[0], slotted(one[1], held), slotted(one[2], held))
    return one


# What is held when the key has come to lie in the slot: there it lies alone, and nowhere else. None: it lies nowhere.
def laid(held, key, slot):
    left = {}
    for other in held:
        if other != key and held[other] != slot:
            left[other] = held[other]
    if slot is not None:
        left[key] = slot
    return left


# What is held behind a reached want, its names and the slots that stand for them handed in, branch by branch.
# Where fewer than all are wanted a name may stay unset: only one that lies in its slot already lies there still.
def laid_behind(held, least, names, slots):
    for name, slot in zip(names, slots):
        if name is not None:
            lies_there = least == len(names) or held.get(name) == slot
            held = laid(held, name, slot)
            if not lies_there:
                held = laid(held, name, None)
    return held
