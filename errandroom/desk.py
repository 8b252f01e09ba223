"""The desk: a program's machines and a hall, by rows of text."""

from errandroom.deskrows import read_desk_row
from errandroom.errors import NoErrand, NoRow
from errandroom.halls import begun, come, result, waiting
from errandroom.halltexts import hall_text, path_text, read_hall
from errandroom.machines import machine_of
from errandroom.making import made
from errandroom.reader import read
from errandroom.shorter import shorter

# What stands for a line end in the rows.
LINE_END = " | "

# The words of rows that ask for a hall.
OF_HALLS = ("good", "bad", "off", "waits", "result", "diary", "keep")


class Desk:
    def __init__(self):
        self.machines = None
        self.hall = None

    def say(self, row):
        told = read_desk_row(row)
        word = told[0]
        if word != "program" and self.machines is None:
            raise NoRow("no program was told")
        if word in OF_HALLS and self.hall is None:
            raise NoRow("no run was begun")
        if word == "program":
            self.machines = shorter_machines(told[1])
            self.hall = None
            return "ok"
        if word == "begin":
            self.hall = begun(self.machines, told[1], told[2])
            return "ok"
        if word == "take":
            self.hall = read_hall(told[1].replace(LINE_END, "\n"))
            return "ok"
        if word in ("good", "bad", "off"):
            return self.let_come(("off",) if word == "off" else ("answer", told[1], word == "good", told[2]))
        if word == "size":
            return size_text(machine_of(self.machines, told[1]))
        return hall_answer(self.hall, told)

    def let_come(self, event):
        pair = come(self.machines, self.hall, event)
        self.hall = pair[0]
        return "ok" if pair[1] == "taken" else "late"


def shorter_machines(text):
    program = read(text.replace(LINE_END, "\n"))
    pair = made(program)
    return shorter(program, pair[0], pair[1])[0]


def size_text(machine):
    return str(len(machine[3])) + " " + str(machine[2])


# The answer to a row that asks what a hall has.
def hall_answer(hall, told):
    if told[0] == "waits":
        return ", ".join([" ".join([path_text(path), who, str(number)]) for path, who, number in waiting(hall)])
    if told[0] == "result":
        end = result(hall)
        return "none" if end is None else end[0] + " " + str(end[1])
    if told[0] == "diary":
        return ", ".join([word + " " + str(number) for hour, word, number in diary_of(hall, told[1])])
    return hall_text(hall).replace("\n", LINE_END)


def diary_of(hall, path):
    for house in hall[1]:
        if house[0] == path:
            return house[4]
    raise NoErrand("no house has this path")
