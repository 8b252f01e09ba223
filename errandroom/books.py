"""Books: all bares that the answers of a world lead to, in whatever order they come."""

from errandroom.errors import TooMany
from errandroom.halls import bare, begun, come, result, waiting


def all_orders(machines, name, args, world, most):
    runs = runs_to_all(machines, name, args, world, most)
    first = None
    for hall in runs:
        if len(answers_to(hall, world)) == 0:
            if first is None:
                first = hall
            elif result(hall) != result(first):
                return ("two", runs[first], runs[hall])
    return ("one", result(first), tuple(sorted(list(runs))))


# For each bare that is come to the events of a run that leads to it.
def runs_to_all(machines, name, args, world, most):
    first = bare(begun(machines, name, args))
    runs = {first: ()}
    waits = [first]
    while len(waits) > 0:
        # Each new one is looked at in a later turn, so none is left uncounted.
        if len(runs) > most:
            raise TooMany("there are more bares than that")
        hall = waits.pop()
        for event in answers_to(hall, world):
            there = behind(machines, hall, event)
            if there not in runs:
                runs[there] = runs[hall] + (event,)
                waits.append(there)
    return runs


# The events by which the world answers what waits in the hall.
def answers_to(hall, world):
    events = []
    for path, who, number in waiting(hall):
        for answer in world:
            if answer[0] == who and answer[1] == number:
                events.append(("answer", path, answer[2], answer[3]))
    return events


def behind(machines, hall, event):
    return bare(come(machines, hall, event)[0])


def book_holds(machines, name, args, world, told, book):
    if bare(begun(machines, name, args)) not in book:
        return False
    return all([is_page(machines, hall, world, told, book) for hall in book])


# Whether all that the hall leads to stands in the book, or, where nothing leads on, it has the result.
def is_page(machines, hall, world, told, book):
    events = answers_to(hall, world)
    if len(events) == 0:
        return result(hall) == told
    return all([behind(machines, hall, event) in book for event in events])
