"""Houses: errands at work, row by row, until each wants something or ends."""

from errandroom.programs import names_of, rows_of
from errandroom.wants import (
    Ask,
    Houseless,
    Want,
    call_off_branches,
    decide,
    first_bad,
    is_over,
    is_reached,
    set_pairs,
    settle_branches,
)
from errandroom.worths import worth

MOST_ROUNDS = 16
MOST_WANTS = 5
LONGEST_PATH = 4
FAULT_OF_ROUNDS = 1
FAULT_OF_WANTS = 3


# What a whole run has: the errands by their names, and all houses and asks that ever began, the asks by their paths.
class Town:
    def __init__(self, program):
        self.errands = {}
        self.houses = []
        self.asks = {}
        for errand in program:
            self.errands[errand[0]] = (errand[0], errand[1], numbered(errand[2], 0))


# A block at work, and the row that it stands in (None: it is the errand's own).
# Its kind is the row's word, or "catch" or "undoing" for second blocks of a try or a do.
# A fault waits in an undoing for its end; there is none where the house goes out.
class Frame:
    def __init__(self, kind, block, row, fault):
        self.kind = kind
        self.block = block
        self.row = row
        self.fault = fault
        self.at = 0


class House:
    def __init__(self, town, path, errand, handed, hour):
        self.town = town
        self.path = path
        self.name = errand[0]
        self.begun = hour
        self.end = ()
        self.diary = []
        self.held = first_held(errand, handed)
        self.frames = [Frame("errand", errand[2], None, None)]
        self.want = None
        self.wants = 0
        self.rounds = 0
        self.called = False

    # Within an undoing it is only noted: the undoing's own want goes on.
    def call_off(self, hour):
        if self.end == () and not self.called:
            self.called = True
            if not in_undoing(self):
                call_off_branches(self.want, hour)

    # Brings the house as far as it comes in this hour by the ends of its branches.
    def settle(self, hour):
        while self.want is not None:
            settle_branches(self.want, hour)
            if not goes_out(self):
                decide(self.want, hour)
            if not is_over(self.want):
                return
            leave_want(self, hour)
            work(self, hour)


def begin_house(town, path, name, handed, hour):
    house = House(town, path, town.errands[name], handed, hour)
    town.houses.append(house)
    work(house, hour)
    return house


def first_held(errand, handed):
    held = {}
    for name in names_of(errand):
        held[name] = 0
    for name, number in zip(errand[1], handed):
        held[name] = number
    return held


# The block again, with each do's number as one more part of it: alike dos may stand at several places.
def numbered(block, first):
    rows = []
    for row in block:
        rows.append(numbered_row(row, first))
        first += count_dos((row,))
    return tuple(rows)


def numbered_row(row, first):
    if row[0] == "do":
        undoing = first + 1 + count_dos(row[1])
        return ("do", numbered(row[1], first + 1), numbered(row[2], undoing), first)
    if row[0] == "if":
        return ("if", row[1], numbered(row[2], first), numbered(row[3], first + count_dos(row[2])))
    if row[0] == "while":
        return ("while", row[1], numbered(row[2], first))
    if row[0] == "try":
        return ("try", numbered(row[1], first), row[2], numbered(row[3], first + count_dos(row[1])))
    return row


def count_dos(block):
    return len([row for row in rows_of(block) if row[0] == "do"])


def in_undoing(house):
    return any([frame.kind == "undoing" for frame in house.frames])


def goes_out(house):
    return house.called and not in_undoing(house)


def note(house, hour, word, number):
    house.diary.append((hour, word, number))


def close(house, word, number, hour):
    house.end = (word, number, hour)


def enter(house, kind, block, row):
    house.frames.append(Frame(kind, block, row, None))


# Does rows until the house waits or has ended.
def work(house, hour):
    while house.end == () and house.want is None:
        frame = house.frames[-1]
        if frame.at == len(frame.block):
            house.frames.pop()
            leave_block(house, frame, hour)
        else:
            frame.at += 1
            do_row(house, frame.block[frame.at - 1], hour)


def leave_block(house, frame, hour):
    if frame.kind == "errand":
        close(house, "good", 0, hour)
    if frame.kind == "while":
        do_while(house, frame.row, hour)
    if frame.kind == "do":
        note(house, hour, "done", frame.row[3])
    if frame.kind == "undoing":
        leave_undoing(house, frame, frame.fault, hour)


def do_row(house, row, hour):
    word = row[0]
    if word == "set":
        house.held[row[1]] = worth(row[2], house.held)
    elif word == "tell":
        note(house, hour, "tell", worth(row[1], house.held))
    elif word == "give":
        do_give(house, row, hour)
    elif word == "fail":
        fall(house, worth(row[1], house.held), hour)
    elif word == "if":
        enter(house, "if", row[2] if worth(row[1], house.held) != 0 else row[3], row)
    elif word == "while":
        do_while(house, row, hour)
    elif word == "try":
        enter(house, "try", row[1], row)
    elif word == "do":
        note(house, hour, "do", row[3])
        enter(house, "do", row[1], row)
    else:
        do_want(house, row, hour)


def do_give(house, row, hour):
    for frame in reversed(house.frames):
        if frame.kind == "do":
            note(house, hour, "done", frame.row[3])
    close(house, "good", worth(row[1], house.held), hour)


def do_while(house, row, hour):
    if worth(row[1], house.held) == 0:
        return
    if house.rounds == MOST_ROUNDS:
        fall(house, FAULT_OF_ROUNDS, hour)
    else:
        house.rounds += 1
        enter(house, "while", row[2], row)


def do_want(house, row, hour):
    if house.wants == MOST_WANTS:
        fall(house, FAULT_OF_WANTS, hour)
        return
    begun = []
    for place, branch in enumerate(row[2]):
        begun.append(begin_branch(house, branch, house.path + (house.wants, place), hour))
    house.wants += 1
    house.want = Want(row[1], [branch[0] for branch in row[2]], begun)


def begin_branch(house, branch, path, hour):
    town = house.town
    if branch[1] == "ask":
        ask = Ask(path, branch[2], worth(branch[3], house.held), hour)
        town.asks[path] = ask
        return ask
    if len(house.path) >= LONGEST_PATH:
        return Houseless(hour)
    return begin_house(town, path, branch[2], [worth(one, house.held) for one in branch[3]], hour)


def leave_want(house, hour):
    want = house.want
    house.want = None
    if goes_out(house):
        go_out(house, hour)
    elif is_reached(want):
        for name, number in set_pairs(want):
            house.held[name] = number
    else:
        fall(house, first_bad(want), hour)


# A fault goes outwards to the first block that takes it.
def fall(house, number, hour):
    while len(house.frames) > 0:
        frame = house.frames.pop()
        if frame.kind == "try":
            catch(house, frame, number)
            return
        if frame.kind == "do":
            undo(house, frame, number, hour)
            return
        if frame.kind == "undoing":
            leave_undoing(house, frame, number, hour)
            return
    close(house, "bad", number, hour)


def catch(house, frame, number):
    if frame.row[2] is not None:
        house.held[frame.row[2]] = number
    enter(house, "catch", frame.row[3], frame.row)


def undo(house, frame, number, hour):
    note(house, hour, "undo", frame.row[3])
    house.frames.append(Frame("undoing", frame.row[2], frame.row, number))


def leave_undoing(house, frame, number, hour):
    note(house, hour, "undone", frame.row[3])
    if goes_out(house):
        go_out(house, hour)
    else:
        fall(house, number, hour)


# Goes out as far as the next do that is to be undone; nothing catches that.
def go_out(house, hour):
    while len(house.frames) > 0:
        frame = house.frames.pop()
        if frame.kind == "do":
            undo(house, frame, None, hour)
            return
    close(house, "off", 0, hour)
