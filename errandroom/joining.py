"""Joined machines: a room to which one go alone leads stands in the place of that go."""

from errandroom.machines import MOST_ROWS
from errandroom.rooms import each_led, leads_of, numbers_of_staying, with_rooms


def joined(program, machines, paper):
    return each_led(program, machines, paper, joined_machine)


def joined_machine(errand, machine, pairs):
    told = (machine, pairs)
    room = room_to_join(machine[3])
    while room is not None:
        told = joined_once(told[0], told[1], room)
        room = room_to_join(told[0][3])
    return told


# The first room whose go is to be replaced by what it leads to; None where there is none.
def room_to_join(rooms):
    counts = [0] * len(rooms)
    for room in rooms:
        for lead in leads_of(room):
            counts[lead] += 1
    for number, room in enumerate(rooms):
        if room[1][0] == "go" and room[1][1] not in (0, number) and counts[room[1][1]] == 1:
            # Longer rooms would be no machine's.
            if len(room[0]) + len(rooms[room[1][1]][0]) <= MOST_ROWS:
                return number
    return None


def joined_once(machine, pairs, number):
    rooms = list(machine[3])
    left_out = rooms[number][1][1]
    there = rooms[left_out]
    rooms[number] = (rooms[number][0] + there[0], there[1], there[2], there[3])
    stay = [room for room in range(len(rooms)) if room != left_out]
    return with_rooms((machine[0], machine[1], machine[2], tuple(rooms)), pairs, stay, numbers_of_staying(stay))
