"""Places of an errand: where its rows stand, and where faults and calls off lead to from there.

A place with an odd count of numbers is a row's or the end of a block; one with an even count is a while's round or the
beginning of a do's undoing.
"""

from errandroom.programs import blocks_of


def places(errand):
    return tuple(sorted(block_places(errand[2], ())))


def block_places(block, ahead):
    found = [ahead + (len(block),)]
    for number, row in enumerate(block):
        found.extend(row_places(row, ahead + (number,)))
    return found


def row_places(row, place):
    found = [place]
    if row[0] == "while":
        found.append(round_of(place))
    if row[0] == "do":
        found.append(beginning_of(place))
    for number, block in enumerate(blocks_of(row)):
        found.extend(block_places(block, place + (number,)))
    return found


def round_of(place):
    return place + (0,)


def beginning_of(place):
    return place + (1,)


def first_of(place, number):
    return place + (number, 0)


def behind(place):
    return place[:-1] + (place[-1] + 1,)


# Whether it can only be a while's round or the beginning of a do's undoing.
def is_between(place):
    return len(place) % 2 == 0


# The block in which the place is a row's or the end; None where there is none.
def block_at(errand, place):
    if is_between(place):
        return None
    if len(place) == 1:
        return errand[2]
    row = row_at(errand, place[:-2])
    blocks = () if row is None else blocks_of(row)
    return blocks[place[-2]] if 0 <= place[-2] < len(blocks) else None


def row_at(errand, place):
    block = block_at(errand, place)
    if block is None or not 0 <= place[-1] < len(block):
        return None
    return block[place[-1]]


# The word of the row at a place, the text without signs where it is no row's.
def word_at(errand, place):
    row = row_at(errand, place)
    return "" if row is None else row[0]


def is_end(errand, place):
    block = block_at(errand, place)
    return block is not None and place[-1] == len(block)


def slid(errand, place):
    there = slid_once(errand, place)
    while there != place:
        place = there
        there = slid_once(errand, place)
    return place


def slid_once(errand, place):
    if word_at(errand, place) == "try":
        return first_of(place, 0)
    if len(place) == 1 or not is_end(errand, place):
        return place
    outer = place[:-2]
    word = word_at(errand, outer)
    if word == "while":
        return outer
    return place if word == "do" else behind(outer)


# Where the place counts as standing: pairs of a row's place and the number of its block, innermost first.
def around(errand, place):
    found = []
    if is_between(place):
        place = place[:-1]
        if word_at(errand, place) == "do":
            found.append((place, 1))
    elif len(place) > 1 and place[-2] == 1 and word_at(errand, place[:-2]) == "do" and is_end(errand, place):
        place = place[:-2]
    while len(place) > 1:
        found.append((place[:-2], place[-2]))
        place = place[:-2]
    return found


def fall_at(errand, place):
    for outer, number in around(errand, place):
        row = row_at(errand, outer)
        if row[0] == "try" and number == 0:
            return ("catch", row[2], first_of(outer, 1))
        if row[0] == "do" and number == 0:
            return ("undo", number_at(errand, outer), beginning_of(outer))
        if row[0] == "do":
            return ("undo", number_at(errand, outer), outer + (1, len(row[2])))
    return None


def off_at(errand, place):
    dos = [pair for pair in around(errand, place) if word_at(errand, pair[0]) == "do"]
    if any([number == 1 for outer, number in dos]):
        return "shut"
    return None if len(dos) == 0 else beginning_of(dos[0][0])


# The numbers of the dos in whose first blocks the place stands, innermost first.
def dos_around(errand, place):
    pairs = around(errand, place)
    return [number_at(errand, outer) for outer, number in pairs if number == 0 and word_at(errand, outer) == "do"]


# The places of all dos of a block, those within others too, as they stand in the text, outer ones ahead.
def do_places(block, ahead):
    found = []
    for number, row in enumerate(block):
        if row[0] == "do":
            found.append(ahead + (number,))
        for which, inner in enumerate(blocks_of(row)):
            found.extend(do_places(inner, ahead + (number, which)))
    return found


def do_at(errand, d):
    return do_places(errand[2], ())[d]


def number_at(errand, place):
    return do_places(errand[2], ()).index(place)


# In the order of the text places rise.
def numbers_of(errand):
    return tuple([(place, number) for number, place in enumerate(do_places(errand[2], ()))])
