"""Halls written as texts, and read from them."""

from errandroom.errors import NoText
from errandroom.halls import rises
from errandroom.hours import is_path
from errandroom.programs import is_word
from errandroom.reader import Lines, read_figures
from errandroom.worths import is_number

NOTES = ("tell", "do", "done", "undo", "undone")
ENDS = ("good", "bad", "off")
LENGTHS_OF_HOUSES = (0, 2, 4)
LENGTHS_OF_ASKS = (2, 4, 6)


def hall_text(hall):
    lines = ["hour " + str(hall[0])]
    for house in hall[1]:
        lines.append(" ".join(["house", path_text(house[0]), house[1], str(house[2]), end_text(house[3])]))
        if house[5] != ():
            lines.append(state_line(house[5]))
        lines.extend([" ".join(["note", str(hour), word, str(number)]) for hour, word, number in house[4]])
    for path, who, number, sent, end in hall[2]:
        lines.append(" ".join(["ask", path_text(path), who, str(number), str(sent), end_text(end)]))
    return "\n".join(lines)


def path_text(path):
    return "-" if path == () else ".".join([str(number) for number in path])


def end_text(end):
    return "-" if end == () else ":".join([str(part) for part in end])


def state_line(state):
    numbers = [state[0], state[2], state[3], 1 if state[4] else 0] + list(state[1])
    return " ".join(["state"] + [str(number) for number in numbers])


def read_hall(text):
    if not isinstance(text, str):
        raise NoText("this is no text")
    lines = Lines(text)
    hour = read_number(parts_of(lines.taken(), "hour", 2)[1])
    houses = []
    while begins(lines, "house"):
        houses.append(read_house(lines))
    asks = []
    while begins(lines, "ask"):
        asks.append(read_ask(lines.taken()))
    if lines.any_left() or not rises(houses) or not rises(asks):
        raise NoText("lines stand here that are none of a hall, or not in their order")
    return (hour, tuple(houses), tuple(asks))


def begins(lines, word):
    return lines.any_left() and lines.ahead()[0] == word


# The parts of a line that is to begin with the word and to have so many.
def parts_of(parts, word, many):
    if parts[0] != word or len(parts) != many:
        raise NoText("another line is to stand here")
    return parts


def read_house(lines):
    parts = parts_of(lines.taken(), "house", 5)
    path = read_path(parts[1], LENGTHS_OF_HOUSES)
    begun = read_number(parts[3])
    end = read_end(parts[4])
    state = read_state(lines.taken()) if end == () else ()
    diary = []
    while begins(lines, "note"):
        diary.append(read_note(lines.taken()))
    return (path, read_word(parts[2]), begun, end, tuple(diary), state)


def read_state(parts):
    if parts[0] != "state" or len(parts) < 5 or parts[4] not in ("0", "1"):
        raise NoText("a state is to stand here")
    numbers = [read_number(part) for part in parts[1:]]
    return (numbers[0], tuple(numbers[4:]), numbers[1], numbers[2], numbers[3] == 1)


def read_note(parts):
    parts_of(parts, "note", 4)
    if parts[2] not in NOTES:
        raise NoText("no word of a diary stands here")
    return (read_number(parts[1]), parts[2], read_number(parts[3]))


def read_ask(parts):
    parts_of(parts, "ask", 6)
    path = read_path(parts[1], LENGTHS_OF_ASKS)
    return (path, read_word(parts[2]), read_number(parts[3]), read_number(parts[4]), read_end(parts[5]))


def read_word(text):
    if not is_word(text):
        raise NoText("a word is to stand here")
    return text


def read_number(text):
    number = number_of(text)
    if number is None:
        raise NoText("a number is to stand here")
    return number


def read_path(text, lengths):
    path = path_of(text)
    if path is None or len(path) not in lengths:
        raise NoText("a path is to stand here")
    return path


def read_end(text):
    if text == "-":
        return ()
    parts = text.split(":")
    if len(parts) != 3 or parts[0] not in ENDS:
        raise NoText("an end is to stand here")
    return (parts[0], read_number(parts[1]), read_number(parts[2]))


# The number that a text writes, None where it writes none.
def number_of(text):
    number = read_figures(text)
    return number if is_number(number) and str(number) == text else None


# The path that a text writes, None where it writes none.
def path_of(text):
    path = () if text == "-" else tuple([number_of(part) for part in text.split(".")])
    return path if is_path(path) else None
