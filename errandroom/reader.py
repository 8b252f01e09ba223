"""Programs read from texts.

What is read is written again and held against the text: so whatever the walk through a text lets by, no text but the
one that writes a program is taken for it.
"""

from errandroom.errors import NoText
from errandroom.programs import DEEPEST_ROW, is_name_formula, is_program
from errandroom.worths import DEEPEST_TRIPLE
from errandroom.writer import worth_text, written

FIGURES = "0123456789"
LEAF_SIGNS = "abcdefghijklmnopqrstuvwxyz0123456789"
MOST_FIGURES = 10

# How many words the line has that a row begins with.
WORDS = {
    "set": 3,
    "tell": 2,
    "give": 2,
    "fail": 2,
    "if": 2,
    "while": 2,
    "try": 1,
    "do": 1,
    "want": 2,
}

# The words of lines that end a block.
CLOSERS = ("end", "else", "catch", "undo")


# A text and how far it has been walked through.
class Signs:
    def __init__(self, text):
        self.text = text
        self.at = 0

    def ahead(self):
        return self.text[self.at:self.at + 1]

    def taken(self):
        self.at += 1
        return self.text[self.at - 1:self.at]


# The lines of a text, each as its words, and how far they have been walked through.
class Lines:
    def __init__(self, text):
        self.rows = [line.split(" ") for line in text.split("\n")]
        self.at = 0

    def any_left(self):
        return self.at < len(self.rows)

    def ahead(self):
        if not self.any_left():
            raise NoText("the text ends too early")
        return self.rows[self.at]

    def taken(self):
        words = self.ahead()
        self.at += 1
        return words


def read_worth(text):
    if not isinstance(text, str):
        raise NoText("this is no text")
    signs = Signs(text)
    one = read_part(signs, DEEPEST_TRIPLE)
    if not is_name_formula(one) or worth_text(one) != text:
        raise NoText("this text writes no number, name or triple")
    return one


def read_part(signs, deeper):
    if signs.ahead() != "(":
        return read_leaf(signs)
    # Told at once, since brackets may stand far deeper than calls can.
    if deeper == 0:
        raise NoText("triples stand too deep")
    signs.taken()
    left = read_part(signs, deeper - 1)
    sign = signs.taken()
    right = read_part(signs, deeper - 1)
    signs.taken()
    return (sign, left, right)


def read_leaf(signs):
    leaf = []
    while signs.ahead() != "" and signs.ahead() in LEAF_SIGNS:
        leaf.append(signs.taken())
    return read_figures("".join(leaf))


# A number for figures; what is none stays a text, and so is no number wherever one is wanted.
def read_figures(text):
    # Counted ahead, since of very many figures Python makes no number.
    if 1 <= len(text) <= MOST_FIGURES and all([sign in FIGURES for sign in text]):
        return int(text)
    return text


def read(text):
    if not isinstance(text, str):
        raise NoText("this is no text")
    lines = Lines(text)
    errands = []
    while lines.any_left():
        errands.append(read_errand(lines))
    program = tuple(errands)
    if not is_program(program) or written(program) != text:
        raise NoText("this text writes no program")
    return program


def read_errand(lines):
    words = lines.taken()
    if words[0] != "errand" or len(words) < 2:
        raise NoText("no errand begins here")
    block = read_block(lines, DEEPEST_ROW)
    lines.taken()
    return (words[1], tuple(words[2:]), block)


def read_block(lines, deeper):
    rows = []
    while lines.ahead()[0] not in CLOSERS:
        if deeper == 0:
            raise NoText("rows stand too deep")
        rows.append(read_row(lines, deeper))
    return tuple(rows)


def read_row(lines, deeper):
    words = lines.taken()
    word = words[0]
    if len(words) != WORDS.get(word, 0):
        raise NoText("no row begins here")
    if word == "set":
        return (word, words[1], read_worth(words[2]))
    if word in ("tell", "give", "fail"):
        return (word, read_worth(words[1]))
    if word == "want":
        return (word, read_figures(words[1]), read_branches(lines))
    first = read_block(lines, deeper - 1)
    closer = lines.taken()
    if word == "while":
        return (word, read_worth(words[1]), first)
    second = read_block(lines, deeper - 1)
    lines.taken()
    if word == "if":
        return (word, read_worth(words[1]), first, second)
    if word == "do":
        return (word, first, second)
    return (word, first, closer[1] if len(closer) == 2 else None, second)


def read_branches(lines):
    branches = []
    while lines.ahead() != ["end"]:
        branches.append(read_branch(lines.taken()))
    lines.taken()
    return tuple(branches)


def read_branch(words):
    if words[1:2] == ["="]:
        return (words[0],) + read_begun(words[2:])
    return (None,) + read_begun(words)


def read_begun(words):
    if words[0:1] == ["ask"] and len(words) == 3:
        return ("ask", words[1], read_worth(words[2]))
    if words[0:1] == ["call"] and len(words) >= 2:
        return ("call", words[1], tuple([read_worth(word) for word in words[2:]]))
    raise NoText("no branch stands here")
