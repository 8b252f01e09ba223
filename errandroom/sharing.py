"""Shared machines: keys of which never more than one is needed lie in one slot."""

from errandroom.deeds import deed_at, fall_due, leads_at
from errandroom.making import made_door, made_fall, made_row
from errandroom.needs import needed_keys
from errandroom.places import slid
from errandroom.rooms import door_leads, each_led
from errandroom.slots import keys_of


def shared(program, machines, paper):
    return each_led(program, machines, paper, shared_machine)


def shared_machine(errand, machine, pairs):
    needed = needed_keys(errand)
    held = shared_slots(errand, needed)
    rooms = [shared_room(errand, room, pair[0], held, needed) for room, pair in zip(machine[3], pairs)]
    kept = [(place, shared_kept(held, needed[slid(errand, place)])) for place, old in pairs]
    slots = count_slots(machine[1], rooms, kept)
    if slots > machine[2]:
        return (machine, pairs)
    return ((machine[0], machine[1], slots, tuple(rooms)), tuple(kept))


# A slot for each key: params lie where they are handed in, the others as low as they may.
def shared_slots(errand, needed):
    clashes = clashes_of(errand, needed)
    held = {}
    for slot, name in enumerate(errand[1]):
        held[name] = slot
    # What is handed in lies in the slots of params at first, where others are to hold 0.
    at_first = needed[slid(errand, (0,))]
    for key in keys_of(errand):
        if key not in held:
            slot = len(errand[1]) if key in at_first else 0
            while any([held[other] == slot and (key, other) in clashes for other in held]):
                slot += 1
            held[key] = slot
    return held


# All pairs of keys that may not lie together, each in both orders.
def clashes_of(errand, needed):
    clashes = {}
    for place in needed:
        add_clashes(clashes, needed[place], needed[place])
        for there, keys in leads_at(errand, place):
            add_clashes(clashes, keys, needed[there])
    return clashes


def add_clashes(clashes, keys, others):
    for key in keys:
        for other in others:
            clashes[(key, other)] = True
            clashes[(other, key)] = True


def shared_kept(held, keys):
    return tuple(sorted([(key, held[key]) for key in keys]))


def shared_room(errand, room, place, held, needed):
    walked = walked_rows(errand, place, len(room[0]))
    rows = tuple([made_row(row, held) for row in walked[0]])
    if room[1][0] == "go":
        return (rows, room[1], room[2], room[3])
    due = deed_at(errand, walked[1])[1]
    door = shared_door(errand, room[1], due, held, needed)
    fall = shared_fall(errand, room[2], fall_due(errand, walked[1], due), held, needed)
    return (rows, door, fall, room[3])


# The rows that the program has for the so many first ones of a room at a place, and where its door stands.
def walked_rows(errand, place, many):
    rows = []
    place = slid(errand, place)
    while len(rows) < many:
        deed = deed_at(errand, place)
        rows.extend(deed[0])
        if deed[1][0] != "go":
            break
        place = slid(errand, deed[1][1])
    return (rows, place)


def shared_door(errand, door, due, held, needed):
    numbers = dict(zip(door_leads(due), door_leads(door)))
    set_behind = dict(shared_kept(held, needed[slid(errand, due[3])])) if due[0] == "want" else held
    return made_door(due, held, set_behind, numbers)


def shared_fall(errand, fall, due, held, needed):
    if due is None:
        return None
    caught = dict(shared_kept(held, needed[slid(errand, due[2])])) if due[0] == "catch" else held
    return made_fall(due, caught, {due[2]: fall[1]})


# As many as are told somewhere, and those below them. What a room reads, or sets for another one that needs it, is kept
# in some room, or put: so no other slots are looked at.
def count_slots(many, rooms, kept):
    slots = [many - 1]
    for room, pair in zip(rooms, kept):
        slots.extend([row[1] for row in room[0] if row[0] == "put"])
        slots.extend([slot for key, slot in pair[1]])
    return max(slots) + 1
