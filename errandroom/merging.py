"""Merged machines: of rooms that do the same for the same paper, one stands for all."""

from errandroom.places import slid
from errandroom.rooms import each_led, with_rooms


def merged(program, machines, paper):
    return each_led(program, machines, paper, merged_machine)


def merged_machine(errand, machine, pairs):
    told = merged_once(errand, machine, pairs)
    # What led to unlike rooms may lead to one now, and so be the same itself.
    while len(told[1]) < len(pairs):
        pairs = told[1]
        told = merged_once(errand, told[0], pairs)
    return told


def merged_once(errand, machine, pairs):
    firsts = {}
    stay = []
    numbers = {}
    for number, room in enumerate(machine[3]):
        likeness = (room, slid(errand, pairs[number][0]), pairs[number][1])
        if likeness not in firsts:
            firsts[likeness] = len(stay)
            stay.append(number)
        numbers[number] = firsts[likeness]
    return with_rooms(machine, pairs, stay, numbers)
