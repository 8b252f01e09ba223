"""Orders of events: which neighbours may change places, and how one order becomes another."""

from errandroom.errors import TooMany
from errandroom.halls import ask_for_errand, begun, come, run, waiting

MOST_EVENTS = 5


def exchanged(events, at):
    return events[:at] + (events[at + 1], events[at]) + events[at + 2:]


def apart(machines, name, args, events, at):
    return are_apart(machines, run(machines, name, args, events[:at]), events[at], events[at + 1])


# Whether both events, coming next, may change places.
def are_apart(machines, hall, event, other):
    if event[0] != "answer" or other[0] != "answer":
        return False
    if not is_waiting(hall, event[1]) or not is_waiting(hall, other[1]):
        return False
    return spares(machines, hall, event, other[1]) and spares(machines, hall, other, event[1])


def is_waiting(hall, path):
    return path in [waits for waits, who, number in waiting(hall)]


# Whether the event, coming alone, neither ends the ask of that path nor calls off a house that it stands within.
def spares(machines, hall, event, path):
    behind = come(machines, hall, event)[0]
    # As long as the ask waits so do all houses around it, and tell whether they were called off.
    return is_waiting(behind, path) and called_around(hall, path) == called_around(behind, path)


def called_around(hall, path):
    return [house[0] for house in hall[1] if path[:len(house[0])] == house[0] and house[5][4]]


# An off that is taken calls the first house off, so no more is asked of events than to be taken.
def quiet(machines, name, args, events):
    hall = begun(machines, name, args)
    for event in events:
        told = come(machines, hall, event)
        if told[1] == "late":
            return False
        hall = told[0]
    return not any_called_off(hall)


# What was called off has ended off, or its state tells it.
def any_called_off(hall):
    ends = [house[3] for house in hall[1]] + [ask[4] for ask in hall[2]]
    if any([end != () and end[0] == "off" for end in ends]):
        return True
    return any([house[5] != () and house[5][4] for house in hall[1]])


# Chains become longer step by step, those of a length in rising order: so the first that comes to an order is told.
def chain(machines, name, args, events, other):
    ask_for_errand(machines, name, args)
    if len(events) > MOST_EVENTS or len(other) > MOST_EVENTS:
        raise TooMany("there are too many events for a chain")
    chains = {events: ()}
    newest = [events]
    while len(newest) > 0 and other not in chains:
        further = []
        for order in newest:
            for at in places_apart(machines, name, args, order):
                there = exchanged(order, at)
                if there not in chains:
                    chains[there] = chains[order] + (at,)
                    further.append(there)
        newest = further
    return chains.get(other)


def places_apart(machines, name, args, events):
    return [at for at in range(len(events) - 1) if apart(machines, name, args, events, at)]
