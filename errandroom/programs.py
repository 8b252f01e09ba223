"""What a program is, and what stands in its errands."""

from errandroom.errors import NoErrand
from errandroom.worths import is_formula, is_whole

LETTERS = "abcdefghijklmnopqrstuvwxyz"
LONGEST_WORD = 8
MOST_ERRANDS = 6
MOST_PARAMS = 3
MOST_ROWS_OF_BLOCK = 8
MOST_ROWS_OF_ERRAND = 24
MOST_NAMES = 6
DEEPEST_ROW = 4
MOST_BRANCHES = 4

# How many parts a row has, its word counted.
PARTS = {
    "set": 3,
    "tell": 2,
    "give": 2,
    "fail": 2,
    "if": 4,
    "while": 3,
    "try": 4,
    "do": 3,
    "want": 3,
}


def is_word(one):
    if not isinstance(one, str) or not 1 <= len(one) <= LONGEST_WORD:
        return False
    return all([sign in LETTERS for sign in one])


def is_word_or_none(one):
    return one is None or is_word(one)


def is_tuple_of(one, least, most):
    return isinstance(one, tuple) and least <= len(one) <= most


# A tuple that begins with a text, as rows and doors do.
def is_worded(one):
    return isinstance(one, tuple) and len(one) > 0 and isinstance(one[0], str)


def is_name_formula(one):
    return is_formula(one, is_word)


def is_program(value):
    if not is_tuple_of(value, 1, MOST_ERRANDS):
        return False
    counts = {}
    for errand in value:
        if not is_head(errand) or errand[0] in counts:
            return False
        counts[errand[0]] = len(errand[1])
    # Calls look at the params of all errands, so bodies are looked at behind all heads.
    return all([is_body(errand, counts) for errand in value])


def is_head(errand):
    return is_tuple_of(errand, 3, 3) and is_word(errand[0]) and is_params(errand[1])


def is_params(params):
    if not is_tuple_of(params, 0, MOST_PARAMS) or not all([is_word(name) for name in params]):
        return False
    return len(set(params)) == len(params)


def is_body(errand, counts):
    rows = shaped_rows(errand[2])
    if rows is None or not all([is_row(row, counts) for row in rows]):
        return False
    if len(names_of(errand)) > MOST_NAMES:
        return False
    return not any([gives(row[2]) for row in rows if row[0] == "do"])


# All rows of an errand's block, or None where blocks or their bounds are not kept to.
# Counted ahead of looking at what stands in the rows, so that nothing huge is walked through.
def shaped_rows(block):
    rows = []
    waiting = [(block, 1)]
    while len(waiting) > 0:
        pair = waiting.pop()
        if not is_shaped_block(pair[0], pair[1]):
            return None
        rows.extend(pair[0])
        if len(rows) > MOST_ROWS_OF_ERRAND:
            return None
        for row in pair[0]:
            waiting.extend([(inner, pair[1] + 1) for inner in blocks_of(row)])
    return rows


def is_shaped_block(block, deep):
    # A block beneath the deepest rows may stand there, but nothing in it.
    most = MOST_ROWS_OF_BLOCK if deep <= DEEPEST_ROW else 0
    return is_tuple_of(block, 0, most) and all([is_shaped_row(row) for row in block])


def is_shaped_row(row):
    return is_worded(row) and len(row) == PARTS.get(row[0], 0)


# Of a shaped row what it has beside its blocks.
def is_row(row, counts):
    if row[0] == "set":
        return is_word(row[1]) and is_name_formula(row[2])
    if row[0] == "want":
        return is_want(row[1], row[2], counts, is_word_or_none, is_name_formula)
    if row[0] == "try":
        return is_word_or_none(row[2])
    return row[0] == "do" or is_name_formula(row[1])


# Wants of machines are such, too, with slots for names: so what stands for both is handed in.
def is_want(least, branches, counts, is_target, is_one):
    if not is_tuple_of(branches, 1, MOST_BRANCHES):
        return False
    if not is_whole(least) or not 1 <= least <= len(branches):
        return False
    return all([is_branch(branch, counts, is_target, is_one) for branch in branches])


def is_branch(branch, counts, is_target, is_one):
    if not is_tuple_of(branch, 4, 4) or not is_target(branch[0]) or not isinstance(branch[1], str):
        return False
    if not is_word(branch[2]):
        return False
    if branch[1] == "ask":
        return is_one(branch[3])
    if branch[1] != "call" or branch[2] not in counts:
        return False
    count = counts[branch[2]]
    return is_tuple_of(branch[3], count, count) and all([is_one(one) for one in branch[3]])


def gives(block):
    return any([row[0] == "give" for row in rows_of(block)])


# The blocks that stand in a row, in the order of the text.
def blocks_of(row):
    if row[0] == "if":
        return (row[2], row[3])
    if row[0] == "while":
        return (row[2],)
    if row[0] == "try":
        return (row[1], row[3])
    if row[0] == "do":
        return (row[1], row[2])
    return ()


# All rows of a block, those within others too, in the order of the text, outer ones ahead.
def rows_of(block):
    rows = []
    for row in block:
        rows.append(row)
        for inner in blocks_of(row):
            rows.extend(rows_of(inner))
    return rows


def names_of(errand):
    names = list(errand[1])
    for row in rows_of(errand[2]):
        names.extend(set_names(row))
        for one in formulas_of(row):
            names.extend(formula_names(one))
    return tuple(sorted(set(names)))


def set_names(row):
    if row[0] == "set":
        return [row[1]]
    if row[0] == "try":
        return [name for name in [row[2]] if name is not None]
    if row[0] == "want":
        return [branch[0] for branch in row[2] if branch[0] is not None]
    return []


def formulas_of(row):
    if row[0] == "set":
        return [row[2]]
    if row[0] in ("tell", "give", "fail", "if", "while"):
        return [row[1]]
    formulas = []
    if row[0] == "want":
        for branch in row[2]:
            formulas.extend([branch[3]] if branch[1] == "ask" else branch[3])
    return formulas


def formula_names(one):
    if isinstance(one, str):
        return [one]
    if isinstance(one, tuple):
        return formula_names(one[1]) + formula_names(one[2])
    return []


def errand_of(program, name):
    for errand in program:
        if errand[0] == name:
            return errand
    raise NoErrand("no errand has this name")
