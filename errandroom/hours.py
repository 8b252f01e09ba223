"""The plain meaning of programs: what comes of a row of events, hour by hour."""

from errandroom.errors import NoErrand
from errandroom.houses import Town, begin_house
from errandroom.programs import errand_of, is_tuple_of, is_worded
from errandroom.worths import is_number, is_whole

LONGEST_PATH = 6
TOP_OF_PATH = 9


def is_event(value):
    if not is_worded(value):
        return False
    if value[0] == "off":
        return len(value) == 1
    if value[0] != "answer" or len(value) != 4:
        return False
    return is_path(value[1]) and isinstance(value[2], bool) and is_number(value[3])


def is_path(value):
    if not is_tuple_of(value, 0, LONGEST_PATH):
        return False
    return all([is_whole(number) and 0 <= number <= TOP_OF_PATH for number in value])


def meant(program, name, args, events):
    if len(errand_of(program, name)[1]) != len(args):
        raise NoErrand("the errand takes another count of numbers")
    town = Town(program)
    first = begin_house(town, (), name, args, 0)
    first.settle(0)
    for hour, event in enumerate(events, start=1):
        bring(town, first, event, hour)
        first.settle(hour)
    return (told_houses(town), told_asks(town))


# Late events bring nothing, but their hour goes by all the same.
def bring(town, first, event, hour):
    if event[0] == "off":
        first.call_off(hour)
    elif event[1] in town.asks:
        answer(town.asks[event[1]], event, hour)


def answer(ask, event, hour):
    if ask.end == ():
        ask.end = ("good" if event[2] else "bad", event[3], hour)


def told_houses(town):
    houses = [(house.path, house.name, house.begun, house.end, tuple(house.diary)) for house in town.houses]
    return tuple(sorted(houses))


def told_asks(town):
    asks = [(ask.path, ask.who, ask.number, ask.sent, ask.end) for ask in town.asks.values()]
    return tuple(sorted(asks))
