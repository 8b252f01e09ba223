"""The rows that a desk is told: what stands in them."""

from errandroom.errors import NoRow
from errandroom.halltexts import number_of, path_of
from errandroom.programs import is_word

# The words of rows that have a text behind a blank, and of those that have nothing.
WITH_TEXT = ("program", "take")
ALONE = ("off", "waits", "result", "keep")


# A tuple of the row's word and what stands behind it: a text, a name and a tuple of numbers, a path and a number, ..
def read_desk_row(row):
    if not isinstance(row, str) or "\n" in row:
        raise NoRow("this is no row")
    parts = row.partition(" ")
    if parts[0] in WITH_TEXT and parts[1] == " ":
        return (parts[0], parts[2])
    words = row.split(" ")
    if words[0] in ALONE and len(words) == 1:
        return (words[0],)
    if words[0] == "begin" and len(words) >= 2:
        return ("begin", name_in(words[1]), tuple([number_in(word) for word in words[2:]]))
    if words[0] in ("good", "bad") and len(words) == 3:
        return (words[0], path_in(words[1]), number_in(words[2]))
    if words[0] == "diary" and len(words) == 2:
        return ("diary", path_in(words[1]))
    if words[0] == "size" and len(words) == 2:
        return ("size", name_in(words[1]))
    raise NoRow("this is no row of a desk")


def name_in(word):
    if not is_word(word):
        raise NoRow("a name is to stand in this row")
    return word


def number_in(word):
    number = number_of(word)
    if number is None:
        raise NoRow("a number is to stand in this row")
    return number


def path_in(word):
    path = path_of(word)
    if path is None:
        raise NoRow("a path is to stand in this row")
    return path
