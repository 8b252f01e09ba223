"""Walked stories: each house by itself, by its machine and by what is told of the ends of its branches.

Whatever a house does hangs on these ends and on when it was called off. A house's end is looked at by its own walk, an
ask's by the events; when they were called off is said by the want that began them. So all hangs on the events at last,
and no story but the run's own is walked.
"""

from errandroom.halls import ask_for_errand, rises
from errandroom.machines import machine_of
from errandroom.stories import StoryHouse, story_of
from errandroom.wants import Ask, is_over


# What is told, by its paths, and the ends that events have for the asks of a path, in their order.
class Tale:
    def __init__(self, machines, events, told):
        self.machines = machines
        self.told_houses = by_path(told[0])
        self.told_asks = by_path(told[1])
        self.answers = {}
        for hour, event in enumerate(events, start=1):
            if event[0] == "answer":
                end = ("good" if event[2] else "bad", event[3], hour)
                self.answers.setdefault(event[1], []).append(end)


def by_path(told):
    found = {}
    for one in told:
        found[one[0]] = one
    return found


# The town of one house alone: what that begins does nothing, and has the end that is told of it.
class LoneTown:
    def __init__(self, tale):
        self.tale = tale
        self.asks = {}

    def begin(self, path, name, handed, hour):
        return Begun(path, name, tuple(handed), hour)


# A house as the one that began it sees it.
class Begun:
    def __init__(self, path, name, handed, hour):
        self.path = path
        self.name = name
        self.handed = handed
        self.begun = hour
        self.end = ()


class LoneHouse(StoryHouse):
    def __init__(self, tale, head):
        StoryHouse.__init__(self, LoneTown(tale), head[0], machine_of(tale.machines, head[1]), head[2], head[3])
        # The hour in which it is called off, unless it has ended by then.
        self.due_call = head[4]
        # Pairs of a want that was begun and the hour in which its branches were called off, or None.
        self.wanted = []
        self.live()

    def live(self):
        self.work(self.begun)
        while self.want is not None:
            give_told_ends(self.town.tale, self.want)
            decided = decided_at(self.want)
            self.wanted.append((self.want, self.calls_off(decided)))
            if not is_over(self.want) or (decided is None and not self.goes_out()):
                return
            hour = over_at(self.want)
            self.leave_want(hour)
            self.work(hour)

    # The hour in which the branches of the want are called off: when it is decided, or when the house is called off.
    def calls_off(self, decided):
        if self.due_call == () or self.leaves_ahead_of_call(decided):
            return decided
        self.called = True
        self.called_at = self.due_call
        hour = self.due_call[0]
        return decided if self.is_shut() or (decided is not None and decided <= hour) else hour

    # What an hour does within a house comes ahead of what calls it off in that hour.
    def leaves_ahead_of_call(self, decided):
        return decided is not None and is_over(self.want) and over_at(self.want) <= self.due_call[0]


def give_told_ends(tale, want):
    for branch in want.branches:
        if isinstance(branch, Ask):
            branch.end = told_end(tale.told_asks, branch.path)
        elif isinstance(branch, Begun):
            branch.end = told_end(tale.told_houses, branch.path)


def told_end(told, path):
    return told[path][-1] if path in told else ()


# The first hour in which enough branches had ended good, or too many bad; None where there is none.
def decided_at(want):
    good = hours_of_ends(want, "good")
    bad = hours_of_ends(want, "bad")
    spare = len(want.branches) - want.least
    if len(good) >= want.least:
        return good[want.least - 1]
    return bad[spare] if len(bad) > spare else None


def hours_of_ends(want, word):
    return sorted([branch.end[2] for branch in want.branches if branch.end != () and branch.end[0] == word])


def over_at(want):
    return max([branch.end[2] for branch in want.branches])


def walks(machines, name, args, events, told):
    ask_for_errand(machines, name, args)
    if not rises(told[0]) or not rises(told[1]):
        return False
    tale = Tale(machines, events, told)
    heads = [((), name, args, 0, first_off(events))]
    houses = 0
    asks = 0
    while len(heads) > 0:
        head = heads.pop()
        house = LoneHouse(tale, head)
        if tale.told_houses.get(head[0]) != story_of(house):
            return False
        houses += 1
        for want, hour in house.wanted:
            due = due_asks(tale, want, hour)
            if not all([tale.told_asks.get(ask[0]) == ask for ask in due]):
                return False
            asks += len(due)
            heads.extend(due_heads(want, hour))
    # All that was begun is told: so nothing else is, where the counts are the same.
    return houses == len(told[0]) and asks == len(told[1])


def first_off(events):
    hours = [hour for hour, event in enumerate(events, start=1) if event[0] == "off"]
    return tuple(hours[:1])


# The asks of a want as they are to be told, its branches called off in that hour, or never.
def due_asks(tale, want, hour):
    asks = [branch for branch in want.branches if isinstance(branch, Ask)]
    return [(ask.path, ask.who, ask.number, ask.sent, due_end(tale, ask, hour)) for ask in asks]


def due_end(tale, ask, hour):
    for end in tale.answers.get(ask.path, []):
        if end[2] > ask.sent and (hour is None or end[2] <= hour):
            return end
    return () if hour is None else ("off", 0, hour)


# What the story is to begin with of each house that the want has begun.
def due_heads(want, hour):
    begun = [branch for branch in want.branches if isinstance(branch, Begun)]
    due_call = () if hour is None else (hour,)
    return [(branch.path, branch.name, branch.handed, branch.begun, due_call) for branch in begun]
