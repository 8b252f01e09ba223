import copy
import random
import unittest

from errandroom.errors import ErrandError, NoErrand
from errandroom.halls import begun, come, run, waiting
from errandroom.machines import is_machines
from errandroom.making import made
from errandroom.shorter import shorter
from errandroom.stories import story
from errandroom.walking import walks
from makings import MachineDice, machine, other_making, room
from room_oracle import OracleHall
from samples import OFF, WHOLE, ProgramDice, bad, good, plain, some_event
from test_halls import END, ask, call, gives, waits

S = [("slot", s) for s in range(4)]
TWICE = machine(room(("give", ("+", S[0], S[0]))), name="twice", many=1, slots=1)
# Called off, it asks once more in a room that is shut.
SLOW = machine(waits(off=2), END, waits(ask(n=7), off="shut", to=3), room(("out", 0)), name="slow", slots=1)


def told_story(test, machines, events=(), name="main", args=()):
    """The story of the run, told twice, held against the hall and the second way, and walked."""
    test.assertTrue(is_machines(machines))
    before = copy.deepcopy((machines, args, events))
    told = story(machines, name, args, events)
    test.assertEqual(story(machines, name, args, events), told)
    test.assertEqual((machines, args, events), before)
    test.assertTrue(plain(told))
    test.assertEqual(told, OracleHall(machines, name, args, events).story())
    hall = run(machines, name, args, events)
    test.assertEqual(told[1], hall[2])
    test.assertEqual([(one[0], one[1], one[3], one[6]) for one in told[0]], [one[:4] for one in hall[1]])
    for one, (*_, state) in zip(told[0], hall[1]):
        if state:
            # Where it waits is the last room that it came to.
            test.assertEqual((one[5][-1][1], one[4] != ()), (state[0], state[4]))
    test.assertIs(walks(machines, name, args, events, told), True)
    return told


def some_events(dice, machines, args, longest):
    hall, events = begun(machines, machines[0][0], args), ()
    for _ in range(dice.randint(0, longest)):
        events += (some_event(dice, [one[0] for one in waiting(hall)]),)
        hall = come(machines, hall, events[-1])[0]
    return events


def some_machines(dice, seed):
    if seed % 2:
        return MachineDice(dice).machines()
    program = ProgramDice(dice, lively=True).program()
    machines, paper = other_making(dice, program)
    return machines if seed % 4 else shorter(program, machines, paper)[0]


def some_run_of(seed, longest, numbers=(0, 1, 2, 5)):
    """Dice, machines, the name of one of them, what it is handed, and events."""
    dice = random.Random(seed)
    machines = some_machines(dice, seed)
    args = tuple(dice.choice(numbers) for _ in range(machines[0][1]))
    return dice, machines, machines[0][0], args, some_events(dice, machines, args, longest)


class Stories(unittest.TestCase):
    def houses(self, machines, *events, args=()):
        return told_story(self, machines, events, args=args)[0]

    def first(self, machines, *events, args=()):
        return self.houses(machines, *events, args=args)[0]

    def test_a_house_that_ends_at_once(self):
        told = told_story(self, (machine(room(("give", S[1])), many=2, slots=3),), args=(4, 5))
        self.assertEqual(told, ((((), "main", (4, 5), 0, (), ((0, 0, (4, 5, 0)),), ("good", 5, 0)),), ()))

    def test_slots_ahead_of_the_rows(self):
        rooms = (room(("go", 1), [("put", 0, 1), ("put", 1, S[0])]), room(("go", 2), [("put", 0, 9)]), gives(S[0]))
        self.assertEqual(self.first((machine(*rooms, slots=2),))[5], ((0, 0, (0, 0)), (0, 1, (1, 1)), (0, 2, (9, 1))))

    def test_no_slots(self):
        self.assertEqual(self.first((machine(room(("go", 1)), END, slots=0),))[5], ((0, 0, ()), (0, 1, ())))

    def test_whatever_led_there(self):
        steps = lambda *rooms, slots=1: [room[:2] for room in self.first((machine(*rooms, slots=slots),))[5]]
        self.assertEqual(steps(room(("fork", 1, 2, 1)), END, END), [(0, 0), (0, 2)])
        self.assertEqual(steps(room(("fork", 0, 2, 1)), END, END), [(0, 0), (0, 1)])
        self.assertEqual(steps(room(("round", 1)), END), [(0, 0), (0, 1)])
        self.assertEqual(steps(room(("fail", 7), fall=(0, 1)), END), [(0, 0), (0, 1)])
        self.assertEqual(steps(room(("fail", 7), fall=(None, 1)), END), [(0, 0), (0, 1)])
        self.assertEqual(steps(room(("out", 0), fall=(0, 1)), END), [(0, 0), (0, 1)])

    def test_what_a_fall_sets_stands_in_the_next_step(self):
        self.assertEqual(self.first((machine(room(("fail", 7), fall=(0, 1)), gives(S[0]), slots=1),))[5], ((0, 0, (0,)), (0, 1, (7,))))

    def test_the_same_room_again(self):
        rooms = (room(("round", 0), [("put", 0, ("+", S[0], 1))], fall=(1, 1)), gives(S[1]))
        told = self.first((machine(*rooms, slots=2),))
        self.assertEqual(told[5], tuple((0, 0, (n, 0)) for n in range(17)) + ((0, 1, (17, 1)),))
        self.assertEqual(told[6], ("good", 1, 0))

    def test_behind_wants(self):
        # Behind each answer the room that wants is come to again.
        rooms = (waits(ask(0), to=0, fall=(1, 1)), gives(S[1]))
        events = [good((n, 0), n + 3) for n in range(5)]
        told = told_story(self, (machine(*rooms, slots=2),), tuple(events))
        self.assertEqual(told[0], (((), "main", (), 0, (), (
            (0, 0, (0, 0)), (1, 0, (3, 0)), (2, 0, (4, 0)), (3, 0, (5, 0)), (4, 0, (6, 0)), (5, 0, (7, 0)), (5, 1, (7, 3)),
        ), ("good", 3, 5)),))
        self.assertEqual([one[3:] for one in told[1]], [(n, ("good", n + 3, n + 1)) for n in range(5)])

    def test_a_missed_want(self):
        rooms = (waits(ask(0), fall=(1, 2)), END, gives(S[1]))
        told = self.first((machine(*rooms, slots=2),), good((7, 7)), bad((0, 0), 8))
        self.assertEqual(told[5:], (((0, 0, (0, 0)), (2, 2, (0, 8))), ("good", 8, 2)))

    def test_runs_that_have_not_ended(self):
        machines = (machine(waits(ask(), call("twice", 3, slot=0), least=2), END, slots=1), TWICE)
        told = told_story(self, machines)
        self.assertEqual(told, (
            (((), "main", (), 0, (), ((0, 0, (0,)),), ()), ((0, 1), "twice", (3,), 0, (), ((0, 0, (3,)),), ("good", 6, 0))),
            (((0, 0), "sun", 1, 0, ()),),
        ))

    def test_houses_within_houses(self):
        sub = machine(waits(ask(0, n=S[1])), gives(S[0]), name="sub", many=2, slots=2)
        machines = (machine(waits(ask()), waits(call("sub", 4, 5, slot=2), to=2), gives(S[2])), sub)
        told = told_story(self, machines, (good((0, 0)), good((1, 0, 0, 0), 9)))
        self.assertEqual(told, (
            (
                ((), "main", (), 0, (), ((0, 0, (0, 0, 0, 0)), (1, 1, (0, 0, 0, 0)), (2, 2, (0, 0, 9, 0))), ("good", 9, 2)),
                ((1, 0), "sub", (4, 5), 1, (), ((1, 0, (4, 5)), (2, 1, (9, 5))), ("good", 9, 2)),
            ),
            (((0, 0), "sun", 1, 0, ("good", 0, 1)), ((1, 0, 0, 0), "sun", 5, 1, ("good", 9, 2))),
        ))

    def test_a_call_that_finds_no_house(self):
        machines = (machine(waits(call("main"), fall=(0, 1)), gives(S[0])),)
        told = told_story(self, machines)
        self.assertEqual([one[0] for one in told[0]], [(), (0, 0), (0, 0, 0, 0)])
        self.assertEqual([one[6] for one in told[0]], [("good", 0, 0), ("good", 0, 0), ("good", 2, 0)])

    def test_late_events(self):
        machines = (machine(waits(), END),)
        told = told_story(self, machines, (good((3, 3)), good((0, 0)), good((0, 0)), OFF, OFF))
        self.assertEqual(told[0][0][4:], ((), ((0, 0, (0,) * 4), (2, 1, (0,) * 4)), ("good", 0, 2)))
        self.assertEqual(told[1], (((0, 0), "sun", 1, 0, ("good", 0, 2)),))

    def test_refusals(self):
        machines = (machine(waits(), END), TWICE)
        for name, args in (("none", ()), ("main", (1,)), ("twice", ()), ("twice", (1, 2)), ("", ())):
            for kind in (NoErrand, ErrandError, ValueError):
                with self.assertRaises(kind):
                    story(machines, name, args, ())
                with self.assertRaises(kind):
                    walks(machines, name, args, (), ((), ()))
            with self.assertRaises(ErrandError) as caught:
                story(machines, name, args, (OFF,))
            self.assertIs(type(caught.exception), NoErrand)
            with self.assertRaises(ErrandError) as caught:
                walks(machines, name, args, (OFF,), story(machines, "main", (), ()))
            self.assertIs(type(caught.exception), NoErrand)


class CalledOff(unittest.TestCase):
    def houses(self, machines, *events):
        return told_story(self, machines, events)[0]

    def test_while_it_waits(self):
        (told,) = self.houses((machine(waits(off=2), END, gives(5)),), good((5, 5)), OFF)
        self.assertEqual(told[4:], ((2,), ((0, 0, (0,) * 4), (2, 2, (0,) * 4)), ("off", 0, 2)))
        (told,) = self.houses((machine(waits(), END),), OFF, OFF)
        self.assertEqual(told[4:], ((1,), ((0, 0, (0,) * 4),), ("off", 0, 1)))

    def test_not_at_all(self):
        (told,) = self.houses((machine(waits(off=2), END, gives(5)),), good((0, 0)), OFF)
        self.assertEqual(told[4:], ((), ((0, 0, (0,) * 4), (1, 1, (0,) * 4)), ("good", 0, 1)))

    def test_in_a_room_that_is_shut(self):
        machines = (machine(waits(off="shut"), waits(off=None, to=2), END),)
        for events, called, steps, end in (
            ((OFF,), (1,), ((0, 0),), ()),
            ((OFF, good((0, 0))), (1,), ((0, 0), (2, 1)), ("off", 0, 2)),
            ((good((0, 0)), OFF), (2,), ((0, 0), (1, 1)), ("off", 0, 2)),
            ((OFF, OFF, good((0, 0))), (1,), ((0, 0), (3, 1)), ("off", 0, 3)),
        ):
            (told,) = self.houses(machines, *events)
            self.assertEqual((told[4], tuple(step[:2] for step in told[5]), told[6]), (called, steps, end))

    def test_in_an_undoing(self):
        program = (("main", (), (("do", (("want", 1, ((None, "ask", "sun", 1),)),), (("want", 1, (("x", "ask", "moon", 2),)),)),)),)
        machines = shorter(program, *made(program))[0]
        (told,) = self.houses(machines, bad((0, 0), 3), OFF, good((1, 0), 4))
        self.assertEqual((told[4], [step[0] for step in told[5]], told[6]), ((2,), [0, 1, 3], ("off", 0, 3)))
        (told,) = self.houses(machines, bad((0, 0), 3), good((1, 0), 4))
        self.assertEqual((told[4], [step[0] for step in told[5]], told[6]), ((), [0, 1, 2], ("bad", 3, 2)))
        # Called off ahead of the undoing, by which it goes out.
        (told,) = self.houses(machines, OFF, good((1, 0), 4))
        self.assertEqual((told[4], [step[0] for step in told[5]], told[6]), ((1,), [0, 1, 2], ("off", 0, 2)))

    def test_by_a_want_that_is_decided(self):
        machines = (machine(waits(ask(), call("slow"), call("slow")), END), SLOW)
        told = self.houses(machines, good((0, 1, 0, 0)))
        self.assertEqual([one[4] for one in told], [(), (), (1,)])
        self.assertEqual(told[2][5:], (((0, 0, (0,)), (1, 2, (0,))), ()))
        # The first house goes on only when that has ended, and so is not called off later.
        told = self.houses(machines, good((0, 1, 0, 0)), good((9, 9)), good((0, 2, 1, 0)), OFF)
        self.assertEqual([(one[4], one[6]) for one in told], [((), ("good", 0, 3)), ((), ("good", 0, 1)), ((1,), ("off", 0, 3))])

    def test_the_first_hour_of_both(self):
        # Called off by its want at first, then the first house by the event: it stays the earlier hour.
        machines = (machine(waits(ask(), call("slow")), END), SLOW)
        told = self.houses(machines, good((0, 0)), OFF)
        self.assertEqual([(one[4], one[6]) for one in told], [((2,), ()), ((1,), ())])
        told = self.houses(machines, good((0, 0)), OFF, good((0, 1, 1, 0)))
        self.assertEqual([(one[4], one[6]) for one in told], [((2,), ("off", 0, 3)), ((1,), ("off", 0, 3))])

    def test_begun_and_called_off_in_one_hour(self):
        machines = (machine(waits(call("slow"), call("twice", 1)), END), SLOW, TWICE)
        told = self.houses(machines)
        self.assertEqual([(one[1], one[4], one[6]) for one in told], [
            ("main", (), ()), ("slow", (0,), ()), ("twice", (), ("good", 2, 0)),
        ])
        self.assertEqual(told[1][5], ((0, 0, (0,)), (0, 2, (0,))))

    def test_what_an_hour_does_within_a_house_comes_ahead(self):
        # In one hour it begins, goes on behind a first want, and is called off in the second one by what stands beside it.
        busy = machine(waits(call("twice", 4, slot=0)), waits(ask(n=S[0]), to=2), END, name="busy", slots=1)
        machines = (machine(waits(call("busy"), call("twice", 1)), END), busy, TWICE)
        told = told_story(self, machines)
        self.assertEqual([(one[0], one[4], one[6]) for one in told[0]], [
            ((), (), ("good", 0, 0)), ((0, 0), (0,), ("off", 0, 0)), ((0, 0, 0, 0), (), ("good", 8, 0)), ((0, 1), (), ("good", 2, 0)),
        ])
        self.assertEqual(told[0][1][5], ((0, 0, (0,)), (0, 1, (8,))))
        self.assertEqual(told[1], (((0, 0, 1, 0), "sun", 8, 0, ("off", 0, 0)),))
        # What ends in the hour in which its want is decided is not called off.
        told = self.houses((machine(waits(call("twice", 3), call("twice", 1)), END), TWICE))
        self.assertEqual([(one[4], one[6]) for one in told], [((), ("good", 0, 0)), ((), ("good", 6, 0)), ((), ("good", 2, 0))])

    def test_all_that_stands_within(self):
        middle = machine(waits(call("slow"), ask(n=3), least=2), END, name="middle")
        machines = (machine(waits(call("middle"), ask()), END), middle, SLOW)
        told = self.houses(machines, good((9, 9)), good((0, 1)))
        self.assertEqual([(one[1], one[4], one[6]) for one in told], [("main", (), ()), ("middle", (2,), ()), ("slow", (2,), ())])
        told = self.houses(machines, OFF, good((0, 0, 0, 0)))
        self.assertEqual([(one[4], one[6]) for one in told], [((1,), ())] * 3)
        told = self.houses(machines, OFF, good((0, 0, 0, 0, 1, 0)))
        self.assertEqual([(one[4], one[6]) for one in told], [((1,), ("off", 0, 2))] * 3)


class ByDice(unittest.TestCase):
    def test_as_another_way_tells_them(self):
        kinds = {}
        for seed in range(400):
            _, machines, name, args, events = some_run_of(seed, 12)
            for one in told_story(self, machines, events, name, args)[0]:
                kind = (len(one[0]), one[4] != (), one[6][:1])
                kinds[kind] = kinds.get(kind, 0) + 1
        for path in (0, 2, 4):
            for kind in ((False, ()), (False, ("good",)), (False, ("bad",)), (True, ("off",)), (True, ())):
                self.assertGreater(kinds.get((path,) + kind, 0), 1, (path,) + kind)

    def test_whole(self):
        machines = shorter(WHOLE, *made(WHOLE))[0]
        told = told_story(self, machines, (good((0, 1), 3), bad((1, 2), 4), good((1, 2), 5)), args=(1, 2))
        self.assertEqual([one[1] for one in told[0]], ["main", "sub", "none"])


if __name__ == "__main__":
    unittest.main()
