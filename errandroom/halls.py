"""Halls: what there is of a run of machines between two events."""

from errandroom.errors import NoErrand
from errandroom.hallhouses import HallHouse, MachineTown
from errandroom.machines import machine_of
from errandroom.waiters import begin_town, pass_hour, told_asks
from errandroom.wants import Ask, Houseless, Want


def begun(machines, name, args):
    return told_hall(run_town(MachineTown(machines), name, args, ()), 0)


def come(machines, hall, event):
    town = opened(machines, hall)
    hour = hall[0] + 1
    word = pass_hour(town, event, hour)
    return (told_hall(town, hour), word)


def run(machines, name, args, events):
    return told_hall(run_town(MachineTown(machines), name, args, events), len(events))


def run_town(town, name, args, events):
    ask_for_errand(town.machines, name, args)
    begin_town(town, name, args)
    for hour, event in enumerate(events, start=1):
        pass_hour(town, event, hour)
    return town


def ask_for_errand(machines, name, args):
    if machine_of(machines, name)[1] != len(args):
        raise NoErrand("the machine takes another count of numbers")


def told_hall(town, hour):
    houses = [told_house(house) for house in town.houses]
    return (hour, tuple(sorted(houses)), told_asks(town))


def told_house(house):
    state = ()
    if house.end == ():
        state = (house.room, tuple(house.slots), house.wants, house.rounds, house.called)
    return (house.path, house.name, house.begun, house.end, tuple(house.diary), state)


# The houses and asks of a hall at work again: each want is the last one that its house has begun.
def opened(machines, hall):
    town = MachineTown(machines)
    known = {}
    for told in hall[2]:
        town.asks[told[0]] = opened_ask(told)
        known[told[0]] = town.asks[told[0]]
    for told in hall[1]:
        house = opened_house(town, told)
        town.houses.append(house)
        known[told[0]] = house
    for house in town.houses:
        if house.end == ():
            house.want = opened_want(house, known)
    return town


def opened_ask(told):
    ask = Ask(told[0], told[1], told[2], told[3])
    ask.end = told[4]
    return ask


def opened_house(town, told):
    house = HallHouse(town, told[0], machine_of(town.machines, told[1]), [], told[2])
    house.end = told[3]
    house.diary = list(told[4])
    state = told[5]
    if state != ():
        house.room = state[0]
        house.slots = list(state[1])
        house.wants = state[2]
        house.rounds = state[3]
        house.called = state[4]
    return house


def opened_want(house, known):
    door = house.rooms[house.room][1]
    branches = []
    for number in range(len(door[2])):
        path = house.path + (house.wants - 1, number)
        # A call that could not begin stands neither among the houses nor among the asks.
        branches.append(known[path] if path in known else Houseless(0))
    return Want(door[1], [branch[0] for branch in door[2]], branches)


# Whether the paths of what is told of houses, or of asks, rise.
def rises(told):
    paths = [one[0] for one in told]
    return paths == sorted(set(paths))


def waiting(hall):
    return tuple([(path, who, number) for path, who, number, sent, end in hall[2] if end == ()])


def result(hall):
    end = hall[1][0][3]
    return None if end == () else (end[0], end[1])


def bare(hall):
    houses = [bare_house(house) for house in hall[1]]
    asks = [(path, who, number, 0, bare_end(end)) for path, who, number, sent, end in hall[2]]
    return (0, tuple(houses), tuple(asks))


def bare_house(house):
    diary = [(0, word, number) for hour, word, number in house[4]]
    return (house[0], house[1], 0, bare_end(house[3]), tuple(diary), house[5])


def bare_end(end):
    return () if end == () else (end[0], end[1], 0)
