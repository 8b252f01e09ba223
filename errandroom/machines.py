"""What machines of rooms are."""

from errandroom.errors import NoErrand
from errandroom.programs import is_tuple_of, is_want, is_word, is_worded
from errandroom.worths import is_formula, is_whole

MOST_MACHINES = 6
MOST_SLOTS = 32
MOST_HANDED = 3
MOST_ROOMS = 160
MOST_ROWS = 60
MOST_DOS = 24
MARKS = ("do", "done", "undo", "undone")

# How many parts a row or a door has, its word counted.
ROW_PARTS = {"put": 3, "tell": 2, "mark": 3}
DOOR_PARTS = {"go": 2, "fork": 4, "round": 2, "give": 2, "fail": 2, "out": 2, "want": 4}


def is_machines(value):
    if not is_tuple_of(value, 1, MOST_MACHINES):
        return False
    counts = {}
    for machine in value:
        if not is_head(machine) or machine[0] in counts:
            return False
        counts[machine[0]] = machine[1]
    # Calls look at what all machines are handed, so rooms are looked at behind all heads.
    return all([are_rooms(machine[3], machine[2], counts) for machine in value])


def is_head(machine):
    if not is_tuple_of(machine, 4, 4) or not is_word(machine[0]):
        return False
    if not is_below(machine[2], MOST_SLOTS + 1) or not is_below(machine[1], MOST_HANDED + 1):
        return False
    return machine[1] <= machine[2]


# One of the whole numbers from 0 on, up to the bound but without it.
def is_below(one, bound):
    return is_whole(one) and 0 <= one < bound


def is_below_or_none(one, bound):
    return one is None or is_below(one, bound)


def is_slot_formula(one, slots):
    return is_formula(one, lambda leaf: is_slot_leaf(leaf, slots))


def is_slot_leaf(leaf, slots):
    if not is_tuple_of(leaf, 2, 2) or not isinstance(leaf[0], str):
        return False
    return leaf[0] == "slot" and is_below(leaf[1], slots)


def are_rooms(rooms, slots, counts):
    if not is_tuple_of(rooms, 1, MOST_ROOMS):
        return False
    if not all([is_room(room, slots, len(rooms), counts) for room in rooms]):
        return False
    return not has_ring(rooms)


def is_room(room, slots, many, counts):
    if not is_tuple_of(room, 4, 4) or not is_tuple_of(room[0], 0, MOST_ROWS):
        return False
    if not all([is_room_row(row, slots) for row in room[0]]):
        return False
    return is_door(room[1], slots, many, counts) and is_fall(room[2], slots, many) and is_off(room[3], many)


def is_room_row(row, slots):
    if not is_worded(row) or len(row) != ROW_PARTS.get(row[0], 0):
        return False
    if row[0] == "put":
        return is_below(row[1], slots) and is_slot_formula(row[2], slots)
    if row[0] == "tell":
        return is_slot_formula(row[1], slots)
    return isinstance(row[1], str) and row[1] in MARKS and is_below(row[2], MOST_DOS)


def is_door(door, slots, many, counts):
    if not is_worded(door) or len(door) != DOOR_PARTS.get(door[0], 0):
        return False
    if door[0] in ("go", "round"):
        return is_below(door[1], many)
    if door[0] == "out":
        return is_below(door[1], slots)
    if door[0] == "want":
        return is_below(door[3], many) and is_slot_want(door, slots, counts)
    if not is_slot_formula(door[1], slots):
        return False
    return door[0] != "fork" or (is_below(door[2], many) and is_below(door[3], many))


def is_slot_want(door, slots, counts):
    return is_want(
        door[1],
        door[2],
        counts,
        lambda target: is_below_or_none(target, slots),
        lambda one: is_slot_formula(one, slots),
    )


def is_fall(fall, slots, many):
    if fall is None:
        return True
    return is_tuple_of(fall, 2, 2) and is_below_or_none(fall[0], slots) and is_below(fall[1], many)


def is_off(off, many):
    if isinstance(off, str):
        return off == "shut"
    return is_below_or_none(off, many)


# The rooms that a house may come to from a room in the same hour, but for those by rounds, which are bounded.
def leads_in_the_hour(room):
    leads = []
    word = room[1][0]
    if word == "go":
        leads.append(room[1][1])
    if word == "fork":
        leads.extend(room[1][2:])
    if word in ("fail", "round", "want", "out") and room[2] is not None:
        leads.append(room[2][1])
    if word in ("want", "out") and is_whole(room[3]):
        leads.append(room[3])
    return leads


def has_ring(rooms):
    # Rooms from which each way comes to an end; a room that never becomes one leads into a ring.
    ending = {}
    grown = True
    while grown:
        grown = False
        for number, room in enumerate(rooms):
            if number not in ending and all([lead in ending for lead in leads_in_the_hour(room)]):
                ending[number] = True
                grown = True
    return len(ending) < len(rooms)


def machine_of(machines, name):
    for machine in machines:
        if machine[0] == name:
            return machine
    raise NoErrand("no machine has this name")
