"""Wants, and what their branches begin: asks, calls that find no house, and houses (beneath errandroom.waiters).

Whatever a branch begins has an end, () until it has come, and takes call_off and settle.
"""

NO_HOUSE = 2


class Ask:
    def __init__(self, path, who, number, hour):
        self.path = path
        self.who = who
        self.number = number
        self.sent = hour
        self.end = ()

    def call_off(self, hour):
        if self.end == ():
            self.end = ("off", 0, hour)

    # An ask does nothing of its own: only events and its want end it.
    def settle(self, hour):
        pass


# A call from a house whose path is too long for another house beneath it.
class Houseless:
    def __init__(self, hour):
        self.end = ("bad", NO_HOUSE, hour)

    def call_off(self, hour):
        pass

    def settle(self, hour):
        pass


class Want:
    def __init__(self, least, names, branches):
        self.least = least
        self.names = names
        self.branches = branches


def count_ends(want, word):
    return len([branch for branch in want.branches if branch.end != () and branch.end[0] == word])


def is_reached(want):
    return count_ends(want, "good") >= want.least


def is_missed(want):
    return count_ends(want, "bad") > len(want.branches) - want.least


def is_over(want):
    return all([branch.end != () for branch in want.branches])


def settle_branches(want, hour):
    for branch in want.branches:
        branch.settle(hour)


def call_off_branches(want, hour):
    for branch in want.branches:
        branch.call_off(hour)


# What stands within the branches has been settled ahead, so that all this hour does there counts.
# Decided once, a want stays so, and what has ended or was called off is not called off again.
def decide(want, hour):
    if is_reached(want) or is_missed(want):
        call_off_branches(want, hour)
        settle_branches(want, hour)


def first_bad(want):
    return [branch.end[1] for branch in want.branches if branch.end[0] == "bad"][0]


# The names that a reached want sets, in order, each with its number.
def set_pairs(want):
    pairs = []
    for name, branch in zip(want.names, want.branches):
        if name is not None and branch.end[0] == "good":
            pairs.append((name, branch.end[1]))
    return pairs
