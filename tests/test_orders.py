import copy
import itertools
import unittest

from errandroom.errors import ErrandError, NoErrand, TooMany
from errandroom.halls import bare, run, waiting
from errandroom.making import made
from errandroom.orders import apart, chain, exchanged, quiet
from errandroom.shorter import shorter
from errandroom.stories import story
from makings import machine
from samples import OFF, bad, good
from test_halls import END, ask, call, gives, waits
from test_stories import SLOW, TWICE, some_run_of

S = [("slot", s) for s in range(4)]
# A house that asks once, one that asks twice, and one that waits in an undoing, as it were.
ONCE = machine(waits(ask(0)), gives(S[0]), name="once")
BOTH = machine(waits(ask(0), ask(1), least=2, fall=(2, 1)), gives(("+", S[0], S[1])), name="both")
SHUT = machine(waits(ask(0), off="shut"), gives(S[0]), name="shut")


def apart_by_stories(machines, name, args, events, at):
    """By what stories tell of whom each event calls off, when it comes alone."""
    ahead = events[:at]
    hall = run(machines, name, args, ahead)
    waits = [one[0] for one in waiting(hall)]
    first, second = events[at], events[at + 1]
    if any(event == OFF or event[1] not in waits for event in (first, second)) or first[1] == second[1]:
        return False
    for event, other in ((first, second), (second, first)):
        houses, asks = story(machines, name, args, ahead + (event,))
        if any(one[0] == other[1] and one[4] for one in asks):
            return False
        if any(other[1][:len(one[0])] == one[0] and one[4] == (at + 1,) for one in houses):
            return False
    return True


def quiet_by_stories(machines, name, args, events):
    for at, event in enumerate(events):
        if event == OFF or event[1] not in [one[0] for one in waiting(run(machines, name, args, events[:at]))]:
            return False
    houses, asks = story(machines, name, args, events)
    return not any(one[4] for one in houses) and not any(one[4][:1] == ("off",) for one in asks)


def chain_by_distances(machines, name, args, events, other):
    """How far all orders are from the last one, and then always the least place that comes nearer."""
    far, newest = {other: 0}, [other]
    while newest:
        further = []
        for order in newest:
            for at in range(len(order) - 1):
                there = order[:at] + (order[at + 1], order[at]) + order[at + 2:]
                # Exchanged, two that are apart are so, too; asked in the order in which the chain would do it.
                if there not in far and apart_by_stories(machines, name, args, there, at):
                    far[there] = far[order] + 1
                    further.append(there)
        newest = further
    if events not in far:
        return None
    told = ()
    while events != other:
        for at in range(len(events) - 1):
            there = events[:at] + (events[at + 1], events[at]) + events[at + 2:]
            if far.get(there) == far[events] - 1 and apart_by_stories(machines, name, args, events, at):
                events, told = there, told + (at,)
                break
    return told


class Exchanged(unittest.TestCase):
    def test_neighbours(self):
        events = (OFF, good((0, 0), 1), bad((0, 1), 2), good((0, 2), 3))
        before = copy.deepcopy(events)
        self.assertEqual(exchanged(events, 0), (events[1], OFF) + events[2:])
        self.assertEqual(exchanged(events, 1), (OFF, events[2], events[1], events[3]))
        self.assertEqual(exchanged(events, 2), (OFF, events[1], events[3], events[2]))
        self.assertEqual(exchanged(events[:2], 0), (events[1], OFF))
        self.assertEqual(exchanged(exchanged(events, 1), 1), events)
        self.assertEqual(events, before)


class Apart(unittest.TestCase):
    def check(self, told, machines, *events, at=0, name="main", args=()):
        before = copy.deepcopy((machines, events))
        self.assertIs(apart(machines, name, args, events, at), told)
        self.assertIs(apart(machines, name, args, events, at), told)
        self.assertEqual((machines, events), before)
        self.assertIs(apart_by_stories(machines, name, args, events, at), told)
        if told:
            other = exchanged(events, at)
            self.assertIs(apart(machines, name, args, other, at), True)
            for count in range(at + 2, len(events) + 1):
                self.assertEqual(bare(run(machines, name, args, events[:count])), bare(run(machines, name, args, other[:count])))

    def test_asks_of_one_want(self):
        machines = (machine(waits(ask(0), ask(1), ask(2), least=3, fall=(3, 1)), gives(S[0])),)
        self.check(True, machines, good((0, 0), 1), good((0, 1), 2))
        self.check(True, machines, good((0, 1), 1), good((0, 0), 2), good((0, 2), 3), OFF)
        # The one that comes second decides the want only when the other has come.
        self.check(True, machines, good((0, 0), 1), good((0, 1), 2), good((0, 2), 3), at=1)
        # Any bad one misses it, and calls off the others.
        self.check(False, machines, bad((0, 0), 1), good((0, 1), 2))
        self.check(False, machines, good((0, 0), 1), bad((0, 1), 2))
        self.check(False, machines, bad((0, 0), 1), bad((0, 1), 2))

    def test_an_off(self):
        machines = (machine(waits(ask(0), ask(1), least=2), END),)
        self.check(False, machines, OFF, good((0, 0)))
        self.check(False, machines, good((0, 0)), OFF)
        self.check(False, machines, OFF, OFF)

    def test_late_ones(self):
        machines = (machine(waits(ask(0), ask(1), least=2), waits(ask(2), to=2), END),)
        self.check(False, machines, good((7, 7)), good((0, 0)))
        self.check(False, machines, good((0, 0)), good((7, 7)))
        self.check(False, machines, good((0, 0)), good((0, 1)), good((0, 1)), at=1)
        # The second one waits only behind the first, or the first only behind the second.
        self.check(False, machines, good((0, 0)), good((0, 1)), good((1, 0)), at=1)
        self.check(False, machines, good((0, 0)), good((1, 0)), good((0, 1)), at=1)
        self.check(True, machines, good((7, 7)), good((0, 0)), good((0, 1)), at=1)

    def test_both_to_one_ask(self):
        machines = (machine(waits(ask(0), ask(1), least=2), END),)
        self.check(False, machines, good((0, 0)), good((0, 0)))
        self.check(False, machines, good((0, 0), 1), bad((0, 0), 2))

    def test_one_that_calls_off_the_others_ask(self):
        machines = (machine(waits(ask(0), ask(1)), END),)
        self.check(False, machines, good((0, 0)), good((0, 1)))
        self.check(True, machines, bad((0, 0)), bad((0, 1)))
        # Only the second one, coming alone, does so.
        self.check(False, machines, bad((0, 0)), good((0, 1)))

    def test_houses_beside_one_another(self):
        machines = (machine(waits(call("once"), call("both"), least=2), END), ONCE, BOTH)
        self.check(True, machines, good((0, 0, 0, 0)), good((0, 1, 0, 0)))
        self.check(True, machines, good((0, 1, 0, 1)), good((0, 1, 0, 0)), good((0, 0, 0, 0)), at=1)
        self.check(True, machines, good((0, 1, 0, 1)), good((0, 1, 0, 0)))
        machines = (machine(waits(call("once"), call("both")), END), ONCE, BOTH)
        # The first one ends its house, and so calls off the other house with its asks.
        self.check(False, machines, good((0, 0, 0, 0)), good((0, 1, 0, 0)))
        self.check(False, machines, good((0, 1, 0, 0)), good((0, 0, 0, 0)))
        self.check(True, machines, good((0, 1, 0, 0)), good((0, 1, 0, 1)))
        self.check(True, machines, good((0, 1, 0, 0)), bad((0, 0, 0, 0)))

    def test_a_house_within_an_undoing_that_is_only_noted(self):
        machines = (machine(waits(ask(0), call("shut")), END), SHUT)
        # The other's ask still waits, but the house around it was called off.
        self.check(False, machines, good((0, 0)), good((0, 1, 0, 0)))
        self.check(False, machines, good((0, 1, 0, 0)), good((0, 0)))
        # Called off ahead already, it is so by neither.
        machines = (machine(waits(ask(0), call("shut"), call("shut")), END), SHUT)
        self.check(False, machines, good((0, 1, 0, 0)), good((0, 2, 0, 0)))
        self.check(True, machines, good((0, 0)), good((0, 1, 0, 0)), good((0, 2, 0, 0)), at=1)

    def test_a_house_farther_out(self):
        # The house around the other's house is called off, and is shut: what stands within goes on.
        outer = machine(waits(call("once"), ask(1), least=2, off="shut"), END, name="outer")
        machines = (machine(waits(call("outer"), ask()), END), outer, ONCE)
        self.check(False, machines, good((0, 1)), good((0, 0, 0, 0, 0, 0)))
        self.check(True, machines, good((0, 0, 0, 1)), good((0, 0, 0, 0, 0, 0)))
        # A house that is called off beside them is no matter.
        machines = (machine(waits(call("both"), call("two"), least=2), END), BOTH, machine(waits(ask(), call("slow")), END, name="two"), SLOW)
        self.check(True, machines, good((0, 0, 0, 0)), good((0, 1, 0, 0)))

    def test_by_dice(self):
        yes = no = 0
        for seed in range(300):
            _, machines, name, args, events = some_run_of(seed, 8)
            for at in range(len(events) - 1):
                told = apart_by_stories(machines, name, args, events, at)
                self.check(told, machines, *events, at=at, name=name, args=args)
                yes, no = yes + told, no + (not told)
        self.assertGreater(yes, 40)
        self.assertGreater(no, 200)


class Quiet(unittest.TestCase):
    def check(self, told, machines, *events, name="main", args=()):
        before = copy.deepcopy((machines, events))
        self.assertIs(quiet(machines, name, args, events), told)
        self.assertIs(quiet(machines, name, args, events), told)
        self.assertEqual((machines, events), before)
        self.assertIs(quiet_by_stories(machines, name, args, events), told)
        ends = set()
        if told and len(events) < 5:
            for order in itertools.permutations(events):
                if quiet(machines, name, args, order):
                    ends.add(bare(run(machines, name, args, order)))
            self.assertEqual(ends, {bare(run(machines, name, args, events))})
        return len(ends)

    MACHINES = (machine(waits(ask(0), call("both"), least=2), gives(S[0])), BOTH)

    def test_quiet_ones(self):
        one = [good((0, 0), 4), good((0, 1, 0, 0), 5), good((0, 1, 0, 1), 6)]
        for count in range(4):
            self.check(True, self.MACHINES, *one[:count])
        # Also bad ones, where they call nothing off.
        machines = (machine(waits(ask(0), ask(1), fall=(0, 1)), END),)
        self.check(True, machines, bad((0, 1)), bad((0, 0)))
        self.check(True, (machine(END),))

    def test_late_events(self):
        self.check(False, self.MACHINES, good((7, 7)))
        self.check(False, self.MACHINES, good((0, 0)), good((0, 0)))
        self.check(False, (machine(END),), good((0, 0)))

    def test_an_off(self):
        self.check(False, self.MACHINES, OFF)
        self.check(False, self.MACHINES, good((0, 0)), OFF)
        self.check(False, (machine(END),), OFF)

    def test_branches_that_were_called_off(self):
        machines = (machine(waits(ask(0), ask(1)), END),)
        self.check(True, machines)
        self.check(True, machines, bad((0, 0)))
        self.check(False, machines, good((0, 0)))
        self.check(False, machines, bad((0, 0)), good((0, 1)), good((0, 1)))
        # A house that has ended off, one that undoes still, one that was only noted.
        self.check(False, (machine(waits(ask(0), call("once")), END), ONCE), good((0, 0)))
        self.check(False, (machine(waits(ask(0), call("slow")), END), SLOW), good((0, 0)))
        self.check(False, (machine(waits(ask(0), call("shut")), END), SHUT), good((0, 0)))
        self.check(False, (machine(waits(ask(0), call("shut")), END), SHUT), good((0, 0)), good((0, 1, 0, 0)))
        self.check(True, (machine(waits(ask(0), call("shut"), least=2), END), SHUT), good((0, 0)), good((0, 1, 0, 0)))

    def test_called_off_where_the_run_begins(self):
        self.check(False, (machine(waits(ask(0), call("twice", 1)), END), TWICE))
        self.check(True, (machine(waits(ask(0), call("twice", 1), least=2), END), TWICE))

    def test_two_quiet_orders_end_in_one_bare(self):
        orders = self.check(True, self.MACHINES, good((0, 1, 0, 1), 6), good((0, 0), 4), good((0, 1, 0, 0), 5))
        self.assertEqual(orders, 1)

    def test_by_dice(self):
        many = 0
        for seed in range(300):
            _, machines, name, args, events = some_run_of(seed, 6)
            for count in range(len(events) + 1):
                told = quiet_by_stories(machines, name, args, events[:count])
                self.check(told, machines, *events[:count], name=name, args=args)
                many += told and count > 1
        self.assertGreater(many, 10)


class Chains(unittest.TestCase):
    def check(self, told, machines, events, other, name="main", args=()):
        before = copy.deepcopy((machines, events, other))
        self.assertEqual(chain(machines, name, args, events, other), told)
        self.assertEqual(chain(machines, name, args, events, other), told)
        self.assertEqual((machines, events, other), before)
        self.assertEqual(chain_by_distances(machines, name, args, events, other), told)
        if told is not None:
            for at in told:
                self.assertTrue(apart(machines, name, args, events, at))
                events = exchanged(events, at)
            self.assertEqual(events, other)

    ALL = (machine(waits(ask(0), ask(1), ask(2), least=3), waits(ask(0), ask(1), least=2, to=2), END),)
    A, B, C = good((0, 0), 1), good((0, 1), 2), good((0, 2), 3)

    def test_from_one_to_itself(self):
        for events in ((), (OFF,), (self.A,), (self.A, self.B, self.C), (OFF, OFF, self.A), (self.A, self.A)):
            self.check((), self.ALL, events, events)

    def test_fewest_exchanges_and_of_these_the_least(self):
        a, b, c = self.A, self.B, self.C
        self.check((0,), self.ALL, (a, b, c), (b, a, c))
        self.check((1,), self.ALL, (a, b, c), (a, c, b))
        self.check((0, 1), self.ALL, (a, b, c), (b, c, a))
        self.check((1, 0), self.ALL, (a, b, c), (c, a, b))
        # As well by (1, 0, 1).
        self.check((0, 1, 0), self.ALL, (a, b, c), (c, b, a))

    def test_five_events(self):
        a, b, c = self.A, self.B, self.C
        d, e = good((1, 0), 4), good((1, 1), 5)
        self.check((3,), self.ALL, (a, b, c, d, e), (a, b, c, e, d))
        self.check((0, 1, 0, 3), self.ALL, (a, b, c, d, e), (c, b, a, e, d))
        self.check((0, 3), self.ALL, (a, b, c, d, e), (b, a, c, e, d))
        # What waits only behind the others can't come ahead of them.
        self.check(None, self.ALL, (a, b, c, d, e), (a, b, d, c, e))
        four = (machine(waits(*[ask(n) for n in range(4)], least=4), END),)
        events = tuple(good((0, n), n) for n in range(4))
        self.check((0, 1, 0, 2, 1, 0), four, events, events[::-1])
        self.check((0, 1, 0, 2, 1, 0), four, events + (OFF,), events[::-1] + (OFF,))

    def test_none(self):
        a, b, c = self.A, self.B, self.C
        machines = (machine(waits(ask(0), ask(1), ask(2)), END),)
        self.check(None, machines, (a, b), (b, a))
        self.check(None, machines, (a, OFF), (OFF, a))
        self.check(None, machines, (OFF, a, b), (OFF, b, a))
        self.check(None, self.ALL, (a, c, OFF), (OFF, a, c))
        self.check((0,), machines, (bad((0, 0)), bad((0, 1)), c), (bad((0, 1)), bad((0, 0)), c))
        self.check(None, machines, (bad((0, 0)), bad((0, 1)), c), (bad((0, 1)), c, bad((0, 0))))

    def test_other_events(self):
        a, b, c = self.A, self.B, self.C
        for events, other in (((), (a,)), ((a,), ()), ((a, b), (a,)), ((a, b), (a, c)), ((a, b), (a, a)), ((a, b), (good((0, 0), 7), b)), ((a,) * 5, (b,))):
            self.check(None, self.ALL, events, other)

    def test_more_than_five_events(self):
        a = self.A
        for events, other in (((a,) * 6, (a,) * 6), ((a,) * 6, (a,)), ((), (a,) * 6), ((a,) * 5, (OFF,) * 6), ((a,) * 150, (a,) * 150)):
            for kind in (TooMany, ErrandError, ValueError):
                with self.assertRaises(kind):
                    chain(self.ALL, "main", (), events, other)
            with self.assertRaises(ErrandError) as caught:
                chain(self.ALL, "main", (), events, other)
            self.assertIs(type(caught.exception), TooMany)
        self.check((), self.ALL, (a,) * 5, (a,) * 5)

    def test_what_is_no_errand_goes_first(self):
        a = self.A
        for name, args in (("none", ()), ("main", (1,)), ("", ())):
            for events in ((), (a,), (a,) * 6):
                with self.assertRaises(ErrandError) as caught:
                    chain(self.ALL, name, args, events, events)
                self.assertIs(type(caught.exception), NoErrand)
            for ask_of in (lambda: apart(self.ALL, name, args, (a, a), 0), lambda: quiet(self.ALL, name, args, ())):
                with self.assertRaises(ErrandError) as caught:
                    ask_of()
                self.assertIs(type(caught.exception), NoErrand)

    def test_by_dice(self):
        lengths = {}
        for seed in range(150):
            dice, machines, name, args, events = some_run_of(seed, 5)
            if len(set(events)) < 2:
                continue
            other = events
            # Some way along, and now and then where no chain may lead.
            for _ in range(dice.randint(1, 6)):
                places = [at for at in range(len(other) - 1) if apart(machines, name, args, other, at)]
                other = exchanged(other, dice.choice(places)) if places else other
            if dice.random() < 0.3:
                other = tuple(dice.sample(other, len(other)))
            told = chain_by_distances(machines, name, args, events, other)
            self.check(told, machines, events, other, name, args)
            size = None if told is None else len(told)
            lengths[size] = lengths.get(size, 0) + 1
        self.assertGreater(lengths[None], 5)
        self.assertGreater(sum(count for size, count in lengths.items() if size), 8)

    def test_of_a_program(self):
        asks = tuple((name, "ask", "sun", n) for n, name in enumerate("abcx"))
        program = (("main", (), (("want", 4, asks), ("give", ("+", "a", "x")))),)
        machines = shorter(program, *made(program))[0]
        events = tuple(good((0, n), n + 1) for n in range(4))
        self.check((1, 0, 2), machines, events, (events[2], events[0], events[3], events[1]))


if __name__ == "__main__":
    unittest.main()
