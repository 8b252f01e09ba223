"""The judge of makings: whether each room does what its paper says of the program."""

from errandroom.deeds import deed_at, fall_due, key_of_fall, key_of_off, off_due
from errandroom.places import places, slid
from errandroom.slots import keys_of, laid, laid_behind, slotted
from errandroom.worths import is_whole


# What the judge knows of an errand and its machine's paper: where each place slides, and all keys.
class Ground:
    def __init__(self, errand, pairs):
        self.errand = errand
        self.pairs = pairs
        self.known = keys_of(errand)
        self.slides = {}
        for place in places(errand):
            self.slides[place] = slid(errand, place)


# How far a room has been walked through: what is done next, how many rows of that are done, and what is held.
class Walk:
    def __init__(self, ground, place, kept):
        self.ground = ground
        self.held = dict(kept)
        self.come_to(place)

    def come_to(self, place):
        ground = self.ground
        self.place = ground.slides[place]
        self.deed = deed_at(ground.errand, self.place)
        self.rows_done = 0

    # Whether the row is the one that is due; if so, it leads on.
    def takes(self, row):
        due = self.deed[0][self.rows_done:self.rows_done + 1]
        if len(due) == 0 or row != row_in_slots(due[0], row, self.held):
            return False
        if row[0] == "put":
            self.held = laid(self.held, due[0][1], row[1])
        self.rows_done += 1
        if self.rows_done == len(self.deed[0]) and self.deed[1][0] == "go":
            self.come_to(self.deed[1][1])
        return True


# The row that a room is to have; which slot a put sets is the room's own choice.
def row_in_slots(due, row, held):
    if due[0] == "put":
        return ("put", row[1], slotted(due[2], held))
    if due[0] == "tell":
        return ("tell", slotted(due[1], held))
    return due


def judged(program, machines, paper):
    for number, errand in enumerate(program):
        room = first_unkept(errand, machines[number], paper[number])
        if room is not None:
            return (number, room)
    return None


def first_unkept(errand, machine, pairs):
    ground = Ground(errand, pairs)
    if not begins_rightly(ground, machine):
        return 0
    for number, room in enumerate(machine[3]):
        if not is_kept(ground, room, pairs[number]):
            return number
    return None


def begins_rightly(ground, machine):
    params = ground.errand[1]
    place = ground.pairs[0][0]
    if machine[0] != ground.errand[0] or machine[1] != len(params):
        return False
    if place not in ground.slides or ground.slides[place] != ground.slides[(0,)]:
        return False
    return all([is_held_at_first(params, key, slot) for key, slot in ground.pairs[0][1]])


# All names but params hold 0 at first, as slots do.
def is_held_at_first(params, key, slot):
    if key in params:
        return params.index(key) == slot
    return slot >= len(params) and not key.isdigit()


def is_kept(ground, room, pair):
    if pair[0] not in ground.slides or not is_fair(ground, pair[1]):
        return False
    walk = Walk(ground, pair[0], pair[1])
    for row in room[0]:
        if not walk.takes(row):
            return False
    return is_door_kept(walk, room) and is_fall_kept(walk, room) and is_off_kept(walk, room)


def is_fair(ground, kept):
    if not all([key in ground.known for key, slot in kept]):
        return False
    return len(set([key for key, slot in kept])) == len(set([slot for key, slot in kept])) == len(kept)


def is_door_kept(walk, room):
    door = room[1]
    if door[0] == "go":
        return len(room[0]) > 0 and walk.rows_done == 0 and leads(walk.ground, door[1], walk.place, walk.held, None)
    due = walk.deed[1]
    if walk.rows_done < len(walk.deed[0]) or door[0] != due[0]:
        return False
    if door[0] == "out":
        return walk.held.get(due[1]) == door[1]
    if door[0] == "want":
        return is_want_kept(walk, door, due)
    if door[0] == "round":
        return leads(walk.ground, door[1], due[1], walk.held, None)
    if door[1] != slotted(due[1], walk.held):
        return False
    if door[0] != "fork":
        return True
    return all([leads(walk.ground, door[at], due[at], walk.held, None) for at in (2, 3)])


def is_want_kept(walk, door, due):
    if door[1] != due[1] or len(door[2]) != len(due[2]):
        return False
    if not all([is_branch_kept(branch, wanted, walk.held) for branch, wanted in zip(door[2], due[2])]):
        return False
    names = [branch[0] for branch in due[2]]
    held = laid_behind(walk.held, due[1], names, [branch[0] for branch in door[2]])
    return leads(walk.ground, door[3], due[3], held, None)


def is_branch_kept(branch, wanted, held):
    if branch[0] is not None and wanted[0] is None:
        return False
    if branch[1:3] != wanted[1:3]:
        return False
    if branch[1] == "ask":
        return branch[3] == slotted(wanted[3], held)
    return branch[3] == tuple([slotted(one, held) for one in wanted[3]])


def is_fall_kept(walk, room):
    due = fall_due(walk.ground.errand, walk.place, room[1])
    if due is None or room[2] is None:
        return due is None and room[2] is None
    if not may_set(due, room[2][0]):
        return False
    # A catch without a name sets no slot either, and so changes nothing of what is held.
    held = laid(walk.held, key_of_fall(due), room[2][0])
    return leads(walk.ground, room[2][1], due[2], held, None)


def may_set(due, slot):
    if due[0] == "undo":
        return slot is not None
    return slot is None or due[1] is not None


def is_off_kept(walk, room):
    due = off_due(walk.ground.errand, walk.place, room[1])
    if due is None or due == "shut":
        return room[3] == due
    # A house that goes out never reads what the number of that do holds.
    return is_whole(room[3]) and leads(walk.ground, room[3], due, walk.held, key_of_off(walk.ground.errand, due))


# Whether the room's paper has that place, and just such pairs as are held; a free key may lie in any slot.
def leads(ground, room, place, held, free):
    there = ground.pairs[room][0]
    if there not in ground.slides or ground.slides[there] != ground.slides[place]:
        return False
    return all([key == free or held.get(key) == slot for key, slot in ground.pairs[room][1]])
