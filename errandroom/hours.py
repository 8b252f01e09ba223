"""The plain meaning of programs: what comes of a row of events, hour by hour."""

from errandroom.errors import NoErrand
from errandroom.houses import ProgramTown
from errandroom.programs import errand_of, is_tuple_of, is_worded
from errandroom.waiters import begin_town, pass_hour, told_asks
from errandroom.worths import is_number, is_whole

LONGEST_PATH = 6
TOP_OF_PATH = 9


def is_event(value):
    if not is_worded(value):
        return False
    if value[0] == "off":
        return len(value) == 1
    if value[0] != "answer" or len(value) != 4:
        return False
    return is_path(value[1]) and isinstance(value[2], bool) and is_number(value[3])


def is_path(value):
    if not is_tuple_of(value, 0, LONGEST_PATH):
        return False
    return all([is_whole(number) and 0 <= number <= TOP_OF_PATH for number in value])


def meant(program, name, args, events):
    if len(errand_of(program, name)[1]) != len(args):
        raise NoErrand("the errand takes another count of numbers")
    town = ProgramTown(program)
    begin_town(town, name, args)
    for hour, event in enumerate(events, start=1):
        pass_hour(town, event, hour)
    return (told_houses(town), told_asks(town))


def told_houses(town):
    houses = [(house.path, house.name, house.begun, house.end, tuple(house.diary)) for house in town.houses]
    return tuple(sorted(houses))
