"""Machines for several tests: any ones, other makings of a program than the package's own, and such with one thing changed."""

from errandroom.deeds import deed_at
from errandroom.machines import is_machines
from errandroom.needs import needs
from errandroom.programs import names_of
from room_oracle import Map

MARKS = ("do", "done", "undo", "undone")


class MachineDice:
    """Makes machines that need be of no program, by a random source that is handed in."""

    def __init__(self, dice):
        self.dice = dice

    def formula(self, slots, deep=2):
        kind = self.dice.randrange(4)
        if kind < 2 and slots:
            return ("slot", self.dice.randrange(slots))
        if deep == 0 or kind < 3:
            return self.dice.choice((0, 1, 1, 2, 5))
        return (self.dice.choice("+-*<="), self.formula(slots, deep - 1), self.formula(slots, deep - 1))

    def slot_or_none(self, slots):
        return self.dice.choice((None,) + tuple(range(slots)))

    def row(self, slots):
        word = self.dice.choice(("put", "tell", "mark") if slots else ("tell", "mark"))
        if word == "put":
            return ("put", self.dice.randrange(slots), self.formula(slots))
        return ("tell", self.formula(slots)) if word == "tell" else ("mark", self.dice.choice(MARKS), self.dice.randrange(24))

    def branch(self, slots):
        if self.dice.random() < 0.5:
            return (self.slot_or_none(slots), "ask", self.dice.choice(("sun", "moon")), self.formula(slots, 1))
        name = self.dice.choice(sorted(self.counts))
        return (self.slot_or_none(slots), "call", name, tuple(self.formula(slots, 1) for _ in range(self.counts[name])))

    def door(self, number, count, slots):
        """Leads that take no round and no want go to later rooms, so that there is no ring."""
        later = lambda: self.dice.randrange(number + 1, count)
        words = ["give", "fail", "round", "want", "want", "want"] + (["out", "out"] if slots else [])
        words += ["go", "fork"] if number + 1 < count else []
        word = self.dice.choice(words)
        if word == "go":
            return ("go", later())
        if word == "fork":
            return ("fork", self.formula(slots), later(), later())
        if word == "round":
            return ("round", self.dice.randrange(count))
        if word == "out":
            return ("out", self.dice.randrange(slots))
        if word == "want":
            branches = tuple(self.branch(slots) for _ in range(self.dice.randint(1, 4)))
            return ("want", self.dice.randint(1, len(branches)), branches, self.dice.randrange(count))
        return (word, self.formula(slots))

    def room(self, number, count, slots):
        rows = tuple(self.row(slots) for _ in range(self.dice.randint(0, 2)))
        fall, off = None, self.dice.choice((None, "shut", "shut"))
        if number + 1 < count and self.dice.random() < 0.6:
            fall = (self.slot_or_none(slots), self.dice.randrange(number + 1, count))
        if number + 1 < count and self.dice.random() < 0.5:
            off = self.dice.randrange(number + 1, count)
        return (rows, self.door(number, count, slots), fall, off)

    def machines(self):
        names = self.dice.sample(("main", "sub", "z"), self.dice.randint(1, 3))
        self.counts = {name: self.dice.randint(0, 2) for name in names}
        made = []
        for name in names:
            slots = self.counts[name] + self.dice.randint(0, 2)
            count = self.dice.randint(1, 7)
            rooms = tuple(self.room(number, count, slots) for number in range(count))
            made.append((name, self.counts[name], slots, rooms))
        return tuple(made)


class Stuck(Exception):
    pass


class OtherMachine:
    """A machine of an errand that divides it by dice into rooms and slots."""

    def __init__(self, dice, errand, most):
        self.dice, self.errand, self.most = dice, errand, most
        self.map = Map(errand)
        self.needs = {place: set(keys) for place, keys in needs(errand)}
        names = names_of(errand)
        self.slots = min(32, max(len(names) + len(self.map.dos) + dice.randint(0, 2), len(errand[1])))
        self.rooms, self.pairs = [], []
        self.stops = dice.choice((0, 0.2, 0.5, 1))
        self.freely = dice.choice((0, 0.3, 0.8))
        others = [name for name in names if name not in errand[1]]
        free = list(range(len(errand[1]), self.slots))
        dice.shuffle(free)
        held = dict(zip(errand[1], range(3)))
        held.update(zip(others, free))
        self.room_at((0,), held)
        done = 0
        while done < len(self.rooms):
            self.rooms[done] = self.room(self.pairs[done])
            done += 1
        self.machine = (errand[0], len(errand[1]), self.slots, tuple(self.rooms))

    def room_at(self, place, held, free=None):
        there = self.map.slid(place)
        fits = [
            r for r, (other, kept) in enumerate(self.pairs)
            if self.map.slid(other) == there and all(held.get(key) == slot or key == free for key, slot in kept)
        ]
        if fits and (len(self.rooms) >= self.most or self.dice.random() < 0.7):
            return self.dice.choice(fits)
        if len(self.rooms) == 160:
            raise Stuck()
        kept = {key: slot for key, slot in held.items() if key in self.needs[there] or self.dice.random() < 0.5}
        if free is not None:
            kept.pop(free, None)
            left = [slot for slot in range(self.slots) if slot not in kept.values()]
            if left:
                kept[free] = self.dice.choice(left)
        self.pairs.append((self.dice.choice([p for p in self.map.row if self.map.slid(p) == there]), tuple(sorted(kept.items()))))
        self.rooms.append(None)
        return len(self.rooms) - 1

    def slot_for(self, held, key, place):
        """A slot for the key that nothing else needed at that place lies in."""
        needed = self.needs[self.map.slid(place)]
        if key in held and self.dice.random() >= self.freely:
            return held[key]
        return self.dice.choice([
            slot for slot in range(self.slots) if not any(s == slot and k in needed and k != key for k, s in held.items())
        ])

    def slot_or_none_for(self, held, key, place):
        if key is None or (key not in self.needs[self.map.slid(place)] and self.dice.random() < 0.5):
            return None
        return self.slot_for(held, key, place)

    def by_slots(self, one, held):
        if isinstance(one, str):
            return ("slot", held[one])
        return (one[0], self.by_slots(one[1], held), self.by_slots(one[2], held)) if isinstance(one, tuple) else one

    def room(self, pair):
        place, held, rows = self.map.slid(pair[0]), dict(pair[1]), []
        while True:
            due, door = deed_at(self.errand, place)
            if rows and self.dice.random() < self.stops:
                return (tuple(rows), ("go", self.room_at(place, held)), None, None)
            for row in due:
                if row[0] == "put":
                    one = self.by_slots(row[2], held)
                    slot = self.slot_for(held, row[1], door[1])
                    rows.append(("put", slot, one))
                    held = laid(held, row[1], slot)
                else:
                    rows.append(row if row[0] == "mark" else ("tell", self.by_slots(row[1], held)))
            if door[0] != "go":
                return (tuple(rows), self.door(door, place, held), self.fall(door, place, held), self.off(door, place, held))
            place = self.map.slid(door[1])

    def door(self, door, place, held):
        if door[0] == "round":
            return ("round", self.room_at(door[1], held))
        if door[0] == "fork":
            return ("fork", self.by_slots(door[1], held), self.room_at(door[2], held), self.room_at(door[3], held))
        if door[0] == "out":
            return ("out", held[door[1]])
        if door[0] != "want":
            return (door[0], self.by_slots(door[1], held))
        branches, behind = [], dict(held)
        for x, word, who, ones in door[2]:
            told = self.by_slots(ones, held) if word == "ask" else tuple(self.by_slots(one, held) for one in ones)
            slot = self.branch_slot(door, behind, x)
            branches.append((slot, word, who, told))
            if x is not None:
                sets = slot is None or door[1] == len(door[2]) or behind.get(x) == slot
                behind = laid(behind, x, slot)
                behind.pop(x, None) if not sets else None
        return ("want", door[1], tuple(branches), self.room_at(door[3], behind))

    def branch_slot(self, door, held, x):
        if door[1] == len(door[2]):
            return self.slot_or_none_for(held, x, door[3])
        if x is not None and x in self.needs[self.map.slid(door[3])]:
            return held[x]
        return self.slot_or_none_for(held, x, door[3])

    def fall(self, door, place, held):
        fall = self.map.fall[place] if door[0] in ("fail", "round", "want", "out") else None
        if fall is None:
            return None
        key = fall[1] if fall[0] == "catch" else str(fall[1])
        slot = (self.slot_or_none_for if fall[0] == "catch" else self.slot_for)(held, key, fall[2])
        return (slot, self.room_at(fall[2], held if key is None else laid(held, key, slot)))

    def off(self, door, place, held):
        off = self.map.off[place] if door[0] in ("want", "out") else None
        return off if not isinstance(off, tuple) else self.room_at(off, held, str(self.map.dos.index(off[:-1])))


def laid(held, key, slot):
    left = {k: s for k, s in held.items() if k != key and s != slot}
    if slot is not None:
        left[key] = slot
    return left


def other_making(dice, program, most=40):
    """Machines and a paper, divided otherwise than the package divides them."""
    while True:
        try:
            made = [OtherMachine(dice, errand, most) for errand in program]
            return (tuple(one.machine for one in made), tuple(tuple(one.pairs) for one in made))
        except Stuck:
            most //= 2


class Changes:
    """Machines and a paper with one thing changed."""

    def __init__(self, dice, program, machines, paper):
        self.dice, self.program, self.machines, self.paper = dice, program, machines, paper

    def changed(self):
        while True:
            m = self.dice.randrange(len(self.machines))
            machine, pairs = self.machines[m], self.paper[m]
            self.slots, self.count = machine[2], len(machine[3])
            r = self.dice.randrange(self.count)
            if self.dice.random() < 0.35:
                pairs = replaced(pairs, r, self.pair(pairs[r], self.program[m]))
            elif self.dice.random() < 0.03:
                machine = (machine[0], self.dice.randint(0, min(3, self.slots)), machine[2], machine[3])
            else:
                machine = machine[:3] + (replaced(machine[3], r, self.room(machine[3][r])),)
            machines, paper = replaced(self.machines, m, machine), replaced(self.paper, m, pairs)
            if (machines, paper) != (self.machines, self.paper) and is_machines(machines):
                return (machines, paper)

    def slot(self):
        return self.dice.randrange(self.slots) if self.slots else 0

    def pair(self, pair, errand):
        place, kept = pair
        kind = self.dice.randrange(5)
        if kind == 0:
            return (self.dice.choice(sorted(Map(errand).row)), kept)
        if kind == 1:
            return (self.dice.choice((place + (0,), place[:-1], place[:-1] + (9,), place + (0, 0))), kept)
        if kind == 2 and kept:
            return (place, tuple(one for one in kept if one != self.dice.choice(kept)))
        if kind == 3 and kept:
            chosen = self.dice.choice(kept)
            slot = self.slot()
            return (place, tuple(sorted([one for one in kept if one != chosen and one[1] != slot] + [(chosen[0], slot)])))
        key = self.dice.choice(list(names_of(errand)) + [str(d) for d in range(len(Map(errand).dos))] + ["q", "99"])
        slot = self.slot()
        return (place, tuple(sorted([one for one in kept if one[0] != key and one[1] != slot] + [(key, slot)])))

    def room(self, room):
        rows, door, fall, off = room
        kind = self.dice.randrange(6)
        if kind == 0 and rows:
            at = self.dice.randrange(len(rows))
            return (rows[:at] + rows[at + 1:], door, fall, off)
        if kind == 1:
            at = self.dice.randint(0, len(rows))
            row = self.dice.choice(rows + (("tell", 1), ("mark", "done", 0), ("put", self.slot(), 0)))
            return (rows[:at] + (row,) + rows[at:], door, fall, off)
        if kind == 2 and rows:
            at = self.dice.randrange(len(rows))
            return (replaced(rows, at, self.part(rows[at])), door, fall, off)
        if kind == 3:
            return (rows, door, self.dice.choice((None, (None, self.dice.randrange(self.count)), (self.slot(), self.dice.randrange(self.count)))), off)
        if kind == 4:
            return (rows, door, fall, self.dice.choice((None, "shut", self.dice.randrange(self.count))))
        return (rows, self.part(door) if self.dice.random() < 0.8 else ("go", self.dice.randrange(self.count)), fall, off)

    def part(self, value):
        """A row, a door or a part of it with some number, word or slot changed."""
        if isinstance(value, tuple) and value:
            at = self.dice.randrange(len(value))
            return replaced(value, at, self.part(value[at]))
        if isinstance(value, str):
            return self.dice.choice(("sun", "moon", "done", "do", "undo", "undone", "give", "fail", "+", "-", value))
        return self.dice.choice((None, 0, 1, 2, 3, ("slot", self.slot()), self.slot(), self.dice.randrange(self.count)))


def replaced(values, at, value):
    return values[:at] + (value,) + values[at + 1:]


def room(door, rows=(), fall=None, off=None):
    return (tuple(rows), door, fall, off)


def machine(*rooms, name="main", many=0, slots=4):
    return (name, many, slots, tuple(rooms))
