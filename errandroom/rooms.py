"""Rooms of a machine: which others they lead to, and what becomes of a machine when some are left out."""


def door_leads(door):
    if door[0] in ("go", "round"):
        return [door[1]]
    if door[0] == "fork":
        return [door[2], door[3]]
    return [door[3]] if door[0] == "want" else []


# All rooms that a room's door, fall and off lead to, one twice where two of these do.
def leads_of(room):
    leads = door_leads(room[1])
    if room[2] is not None:
        leads.append(room[2][1])
    if room[3] is not None and room[3] != "shut":
        leads.append(room[3])
    return leads


# The room with another number for each that it leads to.
def renumbered(room, numbers):
    fall = None if room[2] is None else (room[2][0], numbers[room[2][1]])
    return (room[0], renumbered_door(room[1], numbers), fall, numbers.get(room[3], room[3]))


def renumbered_door(door, numbers):
    if door[0] in ("go", "round"):
        return (door[0], numbers[door[1]])
    if door[0] == "fork":
        return (door[0], door[1], numbers[door[2]], numbers[door[3]])
    if door[0] == "want":
        return (door[0], door[1], door[2], numbers[door[3]])
    return door


# The numbers that rooms have when those alone stay, in their order.
def numbers_of_staying(stay):
    numbers = {}
    for number, room in enumerate(stay):
        numbers[room] = number
    return numbers


# The machine and its part of the paper with those rooms alone; numbers has each room that one of them leads to.
def with_rooms(machine, pairs, stay, numbers):
    rooms = [renumbered(machine[3][room], numbers) for room in stay]
    return ((machine[0], machine[1], machine[2], tuple(rooms)), tuple([pairs[room] for room in stay]))


# Machines and paper where each machine and its part of the paper have been led by the pass that is handed in.
def each_led(program, machines, paper, lead):
    led = [lead(program[at], machines[at], paper[at]) for at in range(len(program))]
    return (tuple([machine for machine, pairs in led]), tuple([pairs for machine, pairs in led]))
