"""What tests of all passes over machines share, and the passes told a second time, one small step after the other."""

import copy

from errandroom.judging import judged
from errandroom.machines import is_machines
from errandroom.places import slid
from makings import laid, replaced, room
from room_oracle import Map, OracleNeeds, behind
from samples import plain

S = [("slot", s) for s in range(6)]
END = room(("give", 0))


def all_leads(one):
    """All rooms that a room leads to, by its door, fall and off, with the word of what leads."""
    _, door, fall, off = one
    rooms = {"go": door[1:2], "round": door[1:2], "fork": door[2:4], "want": door[3:4]}.get(door[0], ())
    found = [(door[0], r) for r in rooms]
    found += [("fall", fall[1])] if fall is not None else []
    return found + ([("off", off)] if off not in (None, "shut") else [])


def led_anew(one, number):
    rows, door, fall, off = one
    if door[0] in ("go", "round"):
        door = (door[0], number(door[1]))
    elif door[0] == "fork":
        door = door[:2] + (number(door[2]), number(door[3]))
    elif door[0] == "want":
        door = door[:3] + (number(door[3]),)
    fall = None if fall is None else (fall[0], number(fall[1]))
    return (rows, door, fall, off if off in (None, "shut") else number(off))


def without(rooms, pairs, r, instead=None):
    """Rooms and pairs without the room r; what leads to it leads to another one, if that is told."""
    def number(old):
        old = instead if old == r else old
        return old if old < r else old - 1
    return (
        tuple(led_anew(one, number) for at, one in enumerate(rooms) if at != r), tuple(pair for at, pair in enumerate(pairs) if at != r),
    )


def pruned_by_steps(errand, rooms, pairs):
    reach = {0}
    while True:
        more = {there for r in reach for _, there in all_leads(rooms[r])} - reach
        if not more:
            break
        reach |= more
    for r in reversed(range(len(rooms))):
        if r not in reach:
            # Rooms that are left out, too, may still lead here; where they lead then is all the same.
            rooms, pairs = without(rooms, pairs, r, 0)
    return rooms, pairs


def joined_by_steps(errand, rooms, pairs):
    """From the last room on, the other way round than one would."""
    while True:
        found = None
        for r in range(1, len(rooms)):
            led = [(word, at) for at, one in enumerate(rooms) for word, there in all_leads(one) if there == r]
            if len(led) == 1 and led[0][0] == "go" and led[0][1] != r:
                found = (r, led[0][1])
        if found is None:
            return rooms, pairs
        r, at = found
        rooms = replaced(rooms, at, (rooms[at][0] + rooms[r][0],) + rooms[r][1:])
        rooms, pairs = without(rooms, pairs, r)


def merged_by_steps(errand, rooms, pairs):
    while True:
        found = [
            (a, b) for a in range(len(rooms)) for b in range(a + 1, len(rooms))
            if rooms[a] == rooms[b] and pairs[a][1] == pairs[b][1] and slid(errand, pairs[a][0]) == slid(errand, pairs[b][0])
        ]
        if not found:
            return rooms, pairs
        rooms, pairs = without(rooms, pairs, found[-1][1], found[-1][0])


class SharedBySteps:
    """A machine whose slots are exchanged one by one for those of the keys that lie in them."""

    def __init__(self, errand, machine, pairs):
        self.map, oracle = Map(errand), OracleNeeds(errand)
        self.needed = {key: oracle.needed(key) for key in oracle.keys}
        self.slot_of = {name: slot for slot, name in enumerate(errand[1])}
        for key in sorted(oracle.keys - set(errand[1])):
            least = len(errand[1]) if self.is_needed(key, (0,)) else 0
            taken = [slot for other, slot in self.slot_of.items() if self.clash(oracle.leads, key, other)]
            self.slot_of[key] = min(slot for slot in range(least, 99) if slot not in taken)
        self.seen = set(range(len(errand[1])))
        self.rooms = tuple(self.room(*pair) for pair in zip(machine[3], pairs))
        self.pairs = tuple(
            (place, tuple(sorted((key, self.slot(key)) for key in oracle.keys if self.is_needed(key, place)))) for place, _ in pairs
        )
        self.slots = max(self.seen, default=-1) + 1
        self.told = (machine[:2] + (self.slots, self.rooms), self.pairs) if self.slots <= machine[2] else (machine, pairs)

    def is_needed(self, key, place):
        return self.map.slid(place) in self.needed[key]

    def clash(self, leads, one, other):
        if self.needed[one] & self.needed[other]:
            return True
        return any(a in keys and there in self.needed[b] for a, b in ((one, other), (other, one)) for _, there, keys in leads)

    def slot(self, key):
        self.seen.add(self.slot_of[key])
        return self.slot_of[key]

    def exchanged(self, one, held):
        if not isinstance(one, tuple):
            return one
        if one[:1] == ("slot",):
            return ("slot", self.slot(next(key for key, slot in held.items() if slot == one[1])))
        return tuple(self.exchanged(part, held) for part in one)

    def room(self, old, pair):
        place, held, rows = self.map.slid(pair[0]), dict(pair[1]), []
        for row in old[0]:
            here = self.map.row[place]
            if row[0] == "put":
                rows.append(("put", self.slot(here[1]), self.exchanged(row[2], held)))
                held = laid(held, here[1], row[1])
            else:
                rows.append(self.exchanged(row, held) if row[0] == "tell" else row)
            if row[0] != "mark":
                place = behind(place)
            elif row[1] in ("do", "undo"):
                place += (0, 0) if row[1] == "do" else (0,)
            elif row[1] == "done" and here is None:
                place = behind(place[:-2])
            place = self.map.slid(place)
        return (tuple(rows), self.door(old[1], place, held), self.fall(old[2], self.map.fall[place]), old[3])

    def door(self, door, place, held):
        if door[0] == "out":
            return ("out", self.slot(next(key for key, slot in held.items() if slot == door[1])))
        if door[0] != "want":
            return self.exchanged(door, held)
        names = [branch[0] for branch in self.map.row[place][2]]
        slots = [None if x is None or not self.is_needed(x, behind(place)) else self.slot(x) for x in names]
        return door[:2] + (tuple((s,) + self.exchanged(branch[1:], held) for s, branch in zip(slots, door[2])), door[3])

    def fall(self, fall, due):
        if fall is None:
            return None
        if due[0] == "undo":
            return (self.slot(str(due[1])), fall[1])
        return (None if due[1] is None or not self.is_needed(due[1], due[2]) else self.slot(due[1]), fall[1])


def shared_by_steps(program, machines, paper):
    told = [SharedBySteps(*parts).told for parts in zip(program, machines, paper)]
    return tuple(machine for machine, _ in told), tuple(pairs for _, pairs in told)


def by_steps(steps, program, machines, paper):
    told = [steps(errand, machine[3], pairs) for errand, machine, pairs in zip(program, machines, paper)]
    return (
        tuple(machine[:3] + (rooms,) for machine, (rooms, _) in zip(machines, told)), tuple(pairs for _, pairs in told),
    )


def led(test, one_pass, program, machines, paper):
    """What the pass tells of machines that are judged None, looked at in all that holds of each pass."""
    test.assertTrue(is_machines(machines))
    test.assertIsNone(judged(program, machines, paper))
    before = copy.deepcopy((program, machines, paper))
    told = one_pass(program, machines, paper)
    test.assertEqual(one_pass(program, machines, paper), told)
    test.assertEqual((program, machines, paper), before)
    test.assertTrue(plain(told))
    test.assertTrue(is_machines(told[0]))
    test.assertIsNone(judged(program, *told))
    for old, new in zip(machines, told[0]):
        test.assertEqual(old[:2], new[:2])
        test.assertLessEqual(len(new[3]), len(old[3]))
        test.assertLessEqual(new[2], old[2])
    test.assertEqual(one_pass(program, *told), told)
    return told


class Case:
    """A program of the errand main with its machine, and what is told of it."""

    def __init__(self, test, one_pass, rows, params=(), slots=6):
        self.test, self.one_pass, self.params, self.slots = test, one_pass, params, slots
        self.program = (("main", params, tuple(rows)),)

    def parts(self, rooms, pairs, slots=None):
        machines = (("main", len(self.params), self.slots if slots is None else slots, tuple(rooms)),)
        return machines, (tuple((place, tuple(kept)) for place, kept in pairs),)

    def told(self, rooms, pairs, new_rooms, new_pairs, new_slots=None):
        told = led(self.test, self.one_pass, self.program, *self.parts(rooms, pairs))
        self.test.assertEqual(told, self.parts(new_rooms, new_pairs, new_slots))

    def same(self, rooms, pairs):
        self.told(rooms, pairs, rooms, pairs)


def check_by_dice(test, one_pass, steps, dice, program, machines, paper):
    told = led(test, one_pass, program, machines, paper)
    test.assertEqual(told, by_steps(steps, program, machines, paper))
    return told
