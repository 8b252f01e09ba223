"""Houses: errands at work, row by row, until each wants something or ends."""

from errandroom.programs import names_of, rows_of
from errandroom.waiters import Town, Waiter
from errandroom.worths import worth


class ProgramTown(Town):
    def __init__(self, program):
        Town.__init__(self)
        self.errands = {}
        for errand in program:
            self.errands[errand[0]] = (errand[0], errand[1], numbered(errand[2], 0))

    def begin(self, path, name, handed, hour):
        house = House(self, path, self.errands[name], handed, hour)
        self.houses.append(house)
        house.work(hour)
        return house


# A block at work, and the row that it stands in (None: it is the errand's own).
# Its kind is the row's word, or "catch" or "undoing" for second blocks of a try or a do.
# A fault waits in an undoing for its end; there is none where the house goes out.
class Frame:
    def __init__(self, kind, block, row, fault):
        self.kind = kind
        self.block = block
        self.row = row
        self.fault = fault
        self.at = 0


class House(Waiter):
    def __init__(self, town, path, errand, handed, hour):
        Waiter.__init__(self, town, path, errand[0], hour)
        self.held = first_held(errand, handed)
        self.frames = [Frame("errand", errand[2], None, None)]

    # Within an undoing nothing that stands there is called off.
    def is_shut(self):
        return any([frame.kind == "undoing" for frame in self.frames])

    def worth_of(self, one):
        return worth(one, self.held)

    def take(self, pairs):
        for name, number in pairs:
            self.held[name] = number

    # Does rows until the house waits or has ended.
    def work(self, hour):
        while self.end == () and self.want is None:
            frame = self.frames[-1]
            if frame.at == len(frame.block):
                self.frames.pop()
                leave_block(self, frame, hour)
            else:
                frame.at += 1
                do_row(self, frame.block[frame.at - 1], hour)

    # A fault goes outwards to the first block that takes it.
    def fall(self, number, hour):
        while len(self.frames) > 0:
            frame = self.frames.pop()
            if frame.kind == "try":
                catch(self, frame, number)
                return
            if frame.kind == "do":
                undo(self, frame, number, hour)
                return
            if frame.kind == "undoing":
                leave_undoing(self, frame, number, hour)
                return
        self.close("bad", number, hour)

    # Goes out as far as the next do that is to be undone; nothing catches that.
    def go_out(self, hour):
        while len(self.frames) > 0:
            frame = self.frames.pop()
            if frame.kind == "do":
                undo(self, frame, None, hour)
                return
        self.close("off", 0, hour)


def first_held(errand, handed):
    held = {}
    for name in names_of(errand):
        held[name] = 0
    for name, number in zip(errand[1], handed):
        held[name] = number
    return held


# The block again, with each do's number as one more part of it: alike dos may stand at several places.
def numbered(block, first):
    rows = []
    for row in block:
        rows.append(numbered_row(row, first))
        first += count_dos((row,))
    return tuple(rows)


def numbered_row(row, first):
    if row[0] == "do":
        undoing = first + 1 + count_dos(row[1])
        return ("do", numbered(row[1], first + 1), numbered(row[2], undoing), first)
    if row[0] == "if":
        return ("if", row[1], numbered(row[2], first), numbered(row[3], first + count_dos(row[2])))
    if row[0] == "while":
        return ("while", row[1], numbered(row[2], first))
    if row[0] == "try":
        return ("try", numbered(row[1], first), row[2], numbered(row[3], first + count_dos(row[1])))
    return row


def count_dos(block):
    return len([row for row in rows_of(block) if row[0] == "do"])


def enter(house, kind, block, row):
    house.frames.append(Frame(kind, block, row, None))


def leave_block(house, frame, hour):
    if frame.kind == "errand":
        house.close("good", 0, hour)
    if frame.kind == "while":
        do_while(house, frame.row, hour)
    if frame.kind == "do":
        house.note(hour, "done", frame.row[3])
    if frame.kind == "undoing":
        leave_undoing(house, frame, frame.fault, hour)


def do_row(house, row, hour):
    word = row[0]
    if word == "set":
        house.held[row[1]] = house.worth_of(row[2])
    elif word == "tell":
        house.note(hour, "tell", house.worth_of(row[1]))
    elif word == "give":
        do_give(house, row, hour)
    elif word == "fail":
        house.fall(house.worth_of(row[1]), hour)
    elif word == "if":
        enter(house, "if", row[2] if house.worth_of(row[1]) != 0 else row[3], row)
    elif word == "while":
        do_while(house, row, hour)
    elif word == "try":
        enter(house, "try", row[1], row)
    elif word == "do":
        house.note(hour, "do", row[3])
        enter(house, "do", row[1], row)
    else:
        house.begin_want(row[1], row[2], hour)


def do_give(house, row, hour):
    for frame in reversed(house.frames):
        if frame.kind == "do":
            house.note(hour, "done", frame.row[3])
    house.close("good", house.worth_of(row[1]), hour)


def do_while(house, row, hour):
    if house.worth_of(row[1]) != 0 and house.begins_round(hour):
        enter(house, "while", row[2], row)


def catch(house, frame, number):
    if frame.row[2] is not None:
        house.held[frame.row[2]] = number
    enter(house, "catch", frame.row[3], frame.row)


def undo(house, frame, number, hour):
    house.note(hour, "undo", frame.row[3])
    house.frames.append(Frame("undoing", frame.row[2], frame.row, number))


def leave_undoing(house, frame, number, hour):
    house.note(hour, "undone", frame.row[3])
    if house.goes_out():
        house.go_out(hour)
    else:
        house.fall(number, hour)
