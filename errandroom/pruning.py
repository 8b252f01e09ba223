"""Pruned machines: without the rooms that no house ever comes to."""

from errandroom.rooms import each_led, leads_of, numbers_of_staying, with_rooms


def pruned(program, machines, paper):
    return each_led(program, machines, paper, pruned_machine)


def pruned_machine(errand, machine, pairs):
    stay = reached(machine[3])
    return with_rooms(machine, pairs, stay, numbers_of_staying(stay))


# The rooms to which something leads from room 0 on, and that one itself, rising.
def reached(rooms):
    seen = {0: True}
    waiting = [0]
    while len(waiting) > 0:
        for room in leads_of(rooms[waiting.pop()]):
            if room not in seen:
                seen[room] = True
                waiting.append(room)
    return sorted(list(seen))
