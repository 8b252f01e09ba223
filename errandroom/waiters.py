"""What all houses have, those of programs and those of machines: an end, a diary, and wants that they wait for."""

from errandroom.wants import (
    Ask,
    Houseless,
    Want,
    call_off_branches,
    decide,
    first_bad,
    is_over,
    is_reached,
    set_pairs,
    settle_branches,
)

MOST_ROUNDS = 16
MOST_WANTS = 5
LONGEST_PATH = 4
FAULT_OF_ROUNDS = 1
FAULT_OF_WANTS = 3


# What a whole run has: all houses that ever began, the first one ahead of all others, and all asks by their paths.
# Whatever stands beneath it has a method begin, for a house at a path.
class Town:
    def __init__(self):
        self.houses = []
        self.asks = {}


# What stands beneath it says where it is and what it does there, by is_shut, worth_of, fall, go_out, take and work.
class Waiter:
    def __init__(self, town, path, name, hour):
        self.town = town
        self.path = path
        self.name = name
        self.begun = hour
        self.end = ()
        self.diary = []
        self.want = None
        self.wants = 0
        self.rounds = 0
        self.called = False

    def note(self, hour, word, number):
        self.diary.append((hour, word, number))

    # Called off, a house ends off, however it ends.
    def close(self, word, number, hour):
        self.end = ("off", 0, hour) if self.called else (word, number, hour)

    def goes_out(self):
        return self.called and not self.is_shut()

    # Where it is shut it is only noted: the want goes on.
    def call_off(self, hour):
        if self.end == () and not self.called:
            self.called = True
            if not self.is_shut():
                call_off_branches(self.want, hour)

    # Brings the house as far as it comes in this hour by the ends of its branches.
    def settle(self, hour):
        while self.want is not None:
            settle_branches(self.want, hour)
            decide(self.want, hour)
            if not is_over(self.want):
                return
            self.leave_want(hour)
            self.work(hour)

    def leave_want(self, hour):
        want = self.want
        self.want = None
        if self.goes_out():
            self.go_out(hour)
        elif is_reached(want):
            self.take(set_pairs(want))
        else:
            self.fall(first_bad(want), hour)

    def begins_round(self, hour):
        if self.rounds == MOST_ROUNDS:
            self.fall(FAULT_OF_ROUNDS, hour)
            return False
        self.rounds += 1
        return True

    def begin_want(self, least, branches, hour):
        if self.wants == MOST_WANTS:
            self.fall(FAULT_OF_WANTS, hour)
            return
        begun = []
        for number, branch in enumerate(branches):
            begun.append(self.begin_branch(branch, self.path + (self.wants, number), hour))
        self.wants += 1
        self.want = Want(least, [branch[0] for branch in branches], begun)

    def begin_branch(self, branch, path, hour):
        town = self.town
        if branch[1] == "ask":
            ask = Ask(path, branch[2], self.worth_of(branch[3]), hour)
            town.asks[path] = ask
            return ask
        if len(self.path) >= LONGEST_PATH:
            return Houseless(hour)
        return town.begin(path, branch[2], [self.worth_of(one) for one in branch[3]], hour)


def begin_town(town, name, handed):
    town.begin((), name, handed, 0).settle(0)


# A late event brings nothing, but its hour goes by all the same.
def pass_hour(town, event, hour):
    first = town.houses[0]
    if event[0] == "off":
        taken = first.end == () and not first.called
        first.call_off(hour)
    else:
        taken = answer(town.asks.get(event[1]), event, hour)
    first.settle(hour)
    return "taken" if taken else "late"


def answer(ask, event, hour):
    if ask is None or ask.end != ():
        return False
    ask.end = ("good" if event[2] else "bad", event[3], hour)
    return True


def told_asks(town):
    asks = [(ask.path, ask.who, ask.number, ask.sent, ask.end) for ask in town.asks.values()]
    return tuple(sorted(asks))
