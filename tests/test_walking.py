import copy
import unittest

from errandroom.making import made
from errandroom.shorter import shorter
from errandroom.stories import story
from errandroom.walking import walks
from makings import machine, replaced, room
from samples import OFF, WHOLE, bad, good
from test_halls import END, ask, call, gives, waits
from test_stories import SLOW, TWICE, some_run_of, told_story

S = [("slot", s) for s in range(4)]


def with_part(story_told, which, at, part, value):
    """The story with another value for one part of one house (0) or one ask (1)."""
    one = replaced(story_told[which][at], part, value)
    return replaced(story_told, which, replaced(story_told[which], at, one))


def other_ends(end):
    if end == ():
        yield from (("good", 0, 1), ("bad", 1, 0), ("off", 0, 1), ("off", 0, 0), ("", 0, 2))
        return
    word, n, hour = end
    yield ()
    yield from ((other, n, hour) for other in ("good", "bad", "off", "none") if other != word)
    yield from ((word, n + 1, hour), (word, n, hour + 1), (word, n, hour - 1), (word, -1, hour), (word, n, 10**20))


def other_steps(steps):
    for at, (hour, number, slots) in enumerate(steps):
        yield steps[:at] + steps[at + 1:]
        yield steps[:at + 1] + steps[at:]
        for step in ((hour + 1, number, slots), (hour - 1, number, slots), (hour, number + 1, slots), (hour, number - 1, slots), (hour, 999, slots)):
            yield replaced(steps, at, step)
        for s in range(len(slots)):
            yield replaced(steps, at, (hour, number, replaced(slots, s, slots[s] + 1)))
        yield replaced(steps, at, (hour, number, slots + (0,)))
        if slots:
            yield replaced(steps, at, (hour, number, slots[:-1]))
    if len(steps) > 1:
        yield ()
        yield steps[:-2] + (steps[-1], steps[-2])
    yield steps + ((steps[-1][0], 0, steps[-1][2]),)


def other_houses(path, name, args, begun, called, steps, end):
    """One thing otherwise, as pairs of a part and what stands there."""
    yield from ((0, path + (0, 0)), (0, (9, 9)), (0, (-1,)), (1, "other"), (1, ""), (2, args + (0,)), (3, begun + 1), (3, begun - 1), (3, 77))
    yield from ((2, replaced(args, at, args[at] + 1)) for at in range(len(args)))
    yield from ((4, other) for other in ((), (0,), (1,), (2,), (3,), (99,), (-1,)))
    yield from ((5, other) for other in other_steps(steps))
    yield from ((6, other) for other in other_ends(end))


def other_asks(path, who, n, sent, end):
    yield from ((0, path + (0, 0)), (0, (8, 8)), (0, ()), (1, "other"), (2, n + 1), (3, sent + 1), (3, sent - 1))
    yield from ((4, other) for other in other_ends(end))


def others(told):
    """Stories with one thing otherwise than told."""
    for which, changes in ((0, other_houses), (1, other_asks)):
        for at, one in enumerate(told[which]):
            for part, value in changes(*one):
                yield with_part(told, which, at, part, value)
            yield replaced(told, which, told[which][:at] + told[which][at + 1:])
            yield replaced(told, which, told[which][:at + 1] + told[which][at:])
        yield replaced(told, which, ())
        yield replaced(told, which, tuple(reversed(told[which])))
    first = told[0][0]
    for path in ((9, 9), (0, 0), (0, 0, 0, 0), (1,), (0, 1, 0, 0, 0, 0), (-5, 3)):
        yield (tuple(sorted(told[0] + ((path,) + first[1:],))), told[1])
        yield (tuple(sorted(told[0] + ((path, "none", (1,), 0, (), (), ()),))), told[1])
        for end in ((), ("off", 0, 0), ("good", 1, 1)):
            yield (told[0], tuple(sorted(told[1] + ((path, "sun", 1, 0, end),))))


class Walks(unittest.TestCase):
    def check(self, machines, *events, name="main", args=(), of=1):
        """The run's own story alone is walked, of those that have one thing otherwise; every so many-th of them is asked."""
        told = told_story(self, machines, events, name, args)
        refused = 0
        for at, other in enumerate(others(told)):
            if at % of == 0:
                before = copy.deepcopy(other)
                self.assertIs(walks(machines, name, args, events, other), other == told, other)
                self.assertEqual(other, before)
                refused += other != told
        self.assertGreater(refused, 20 // of)
        return told

    def test_houses_alone(self):
        self.check((machine(END),))
        self.check((machine(END, many=2),), args=(3, 4))
        self.check((machine(room(("fail", 3))),))
        self.check((machine(room(("go", 1), [("put", 0, 5)]), room(("fork", S[0], 2, 3)), gives(1), gives(2)),))
        self.check((machine(room(("round", 0), [("put", 0, ("+", S[0], 1))], fall=(1, 1)), gives(S[1])),), of=3)
        self.check((machine(room(("fail", 1), fall=(0, 1)), room(("out", 0), fall=(None, 2)), END),))

    def test_asks(self):
        machines = (machine(waits(ask(0), ask(1), fall=(2, 1)), gives(S[0])),)
        for events in ((), (good((0, 0), 3),), (good((0, 1), 3),), (good((5, 5)), good((0, 0), 3)), (bad((0, 0), 3),), (bad((0, 1), 3), bad((0, 0), 4))):
            self.check(machines, *events)
            self.check(machines, *events, good((0, 1), 8), OFF)
        machines = (machine(waits(ask(0), to=0, fall=(1, 1)), gives(S[1])),)
        self.check(machines, *[good((n, 0), n + 3) for n in range(4)], of=3)
        self.check(machines, *[good((n, 0), n + 3) for n in range(6)], of=3)

    def test_called_off(self):
        machines = (machine(waits(off=2), waits(off="shut", to=2), waits(off=None, to=3), END),)
        for events in (
            (OFF,), (good((0, 0)), OFF), (good((0, 0)), OFF, good((1, 0))), (OFF, good((1, 0))), (good((4, 4)), OFF, OFF, good((0, 0))),
            (good((0, 0)), good((1, 0)), OFF),
        ):
            self.check(machines, *events)

    def test_houses_within_houses(self):
        machines = (machine(waits(ask(0), call("slow"), call("twice", S[0]), least=2), END), SLOW, TWICE)
        self.check(machines)
        for events in (
            (good((0, 0)),), (good((0, 0)), good((0, 1, 1, 0))), (good((0, 1, 0, 0)),), (OFF,), (OFF, good((0, 1, 1, 0))), (good((0, 0)), OFF),
            (good((0, 0)), OFF, good((0, 1, 1, 0)), OFF), (bad((0, 0)),), (bad((0, 1, 0, 0)),),
        ):
            self.check(machines, *events, of=2)

    def test_begun_and_ended_in_one_hour(self):
        busy = machine(waits(call("twice", 4, slot=0)), waits(ask(n=S[0]), to=2), END, name="busy", slots=1)
        self.check((machine(waits(call("busy"), call("twice", 1)), END), busy, TWICE), OFF, of=2)
        self.check((machine(waits(call("twice", 1), call("twice", 2)), END), TWICE), of=2)
        self.check((machine(waits(call("main"), fall=(0, 1)), gives(S[0])),), of=2)

    def test_the_right_things_in_another_hour(self):
        machines = (machine(waits(ask(0), call("slow")), END), SLOW)
        one = (good((7, 7)), good((0, 0), 3), good((0, 1, 1, 0), 2))
        told = story(machines, "main", (), one)
        for other in ((one[1], one[0], one[2]), (one[1], one[2], one[0]), (one[0], one[0], one[1], one[2]), one[1:]):
            self.assertIs(walks(machines, "main", (), one, story(machines, "main", (), other)), False)
            self.assertIs(walks(machines, "main", (), other, told), False)
        # A late event behind all others leaves the story as it is.
        self.assertIs(walks(machines, "main", (), one + one, told), True)
        # All hours of the run put off by one.
        later = (tuple(
            one[:3] + (one[3] + 1, tuple(h + 1 for h in one[4]), tuple((h + 1, r, s) for h, r, s in one[5]), one[6] and one[6][:2] + (one[6][2] + 1,))
            for one in told[0]
        ), tuple(one[:3] + (one[3] + 1, one[4] and one[4][:2] + (one[4][2] + 1,)) for one in told[1]))
        self.assertIs(walks(machines, "main", (), one, later), False)
        self.assertIs(walks(machines, "main", (), one[:1] + one, later), False)

    def test_what_calls_off_in_the_hour_of_an_answer(self):
        # Two houses end good in one hour; told so that the second one was called off in that hour ahead of ending.
        machines = (machine(waits(call("twice", 1), call("twice", 2)), END), TWICE)
        told = story(machines, "main", (), ())
        fake = with_part(with_part(told, 0, 2, 4, (0,)), 0, 2, 6, ("off", 0, 0))
        self.assertIs(walks(machines, "main", (), (), fake), False)
        # An ask that was answered in the hour in which it would have been called off.
        machines = (machine(waits(ask(0), ask(1)), END),)
        told = story(machines, "main", (), (good((0, 0), 1), good((0, 1), 2)))
        self.assertEqual(told[1][1][4], ("off", 0, 1))
        for end in (("good", 2, 2), ("off", 0, 2), ("good", 2, 1)):
            self.assertIs(walks(machines, "main", (), (good((0, 0), 1), good((0, 1), 2)), with_part(told, 1, 1, 4, end)), False)

    def test_answers_that_come_ahead_of_what_they_answer(self):
        # Late, they end nothing that is sent later.
        machines = (machine(waits(ask(0), to=0, fall=(1, 1)), gives(S[1])),)
        told = self.check(machines, good((1, 0), 7), good((0, 0), 8))
        self.assertEqual(told[1][1], ((1, 0), "sun", 1, 2, ()))
        told = self.check(machines, good((1, 0), 7), good((0, 0), 8), bad((1, 0), 9))
        self.assertEqual(told[1][1], ((1, 0), "sun", 1, 2, ("bad", 9, 3)))

    def test_what_would_have_waited_on_though_called_off(self):
        # Told so that a house that was called off waits for its answer, and goes out only then.
        machines = (machine(waits(ask(0), off=2), END, gives(5)),)
        events = (OFF, good((0, 0), 4))
        told = story(machines, "main", (), events)
        later = with_part(told, 1, 0, 4, ("good", 4, 2))
        slots = (0,) * 4
        for steps, end in ((((0, 0, slots), (2, 2, slots)), ("off", 0, 2)), (((0, 0, slots), (2, 1, (4, 0, 0, 0))), ("off", 0, 2))):
            for called in ((1,), (2,), ()):
                fake = with_part(with_part(with_part(later, 0, 0, 5, steps), 0, 0, 6, end), 0, 0, 4, called)
                self.assertIs(walks(machines, "main", (), events, fake), False)
        # And the other way round, in a room that is shut.
        machines = (machine(waits(ask(0), off="shut"), END),)
        told = story(machines, "main", (), events)
        self.assertEqual(told[0][0][6], ("off", 0, 2))
        for end, hour in ((("off", 0, 1), 1), (("good", 4, 2), 1), (("off", 0, 1), 2)):
            fake = with_part(with_part(told, 1, 0, 4, end), 0, 0, 6, ("off", 0, hour))
            self.assertIs(walks(machines, "main", (), events, with_part(fake, 0, 0, 5, ((0, 0, slots),))), False)

    def test_a_house_that_would_end_for_another_that_never_does(self):
        # Two tellings that each hold together but for the events: one with the answer, one without.
        sub = machine(waits(ask(0)), gives(S[0]), name="sub")
        machines = (machine(waits(call("sub", slot=0)), gives(S[0])), sub)
        with_it, without = (story(machines, "main", (), events) for events in ((good((0, 0, 0, 0), 4),), ()))
        self.assertIs(walks(machines, "main", (), (), with_it), False)
        self.assertIs(walks(machines, "main", (), (good((0, 0, 0, 0), 4),), without), False)
        self.assertIs(walks(machines, "main", (), (good((0, 0, 0, 0), 5),), with_it), False)
        self.assertIs(walks(machines, "main", (), (bad((0, 0, 0, 0), 4),), with_it), False)
        # The ask alone told as answered, or the houses alone told as ended.
        self.assertIs(walks(machines, "main", (), (), (with_it[0], without[1])), False)
        self.assertIs(walks(machines, "main", (), (), (without[0], with_it[1])), False)

    def test_other_machines_names_and_numbers(self):
        machines = (machine(END, name="one"), machine(END, name="two"), machine(gives(S[0]), name="three", many=1))
        self.assertIs(walks(machines, "one", (), (), story(machines, "two", (), ())), False)
        self.assertIs(walks(machines, "three", (4,), (), story(machines, "three", (5,), ())), False)
        self.assertIs(walks(machines, "three", (5,), (), story(machines, "three", (5,), ())), True)
        other = machines[:2] + (machine(gives(S[1]), name="three", many=1),)
        self.assertIs(walks(other, "three", (5,), (), story(machines, "three", (5,), ())), False)

    def test_stories_of_nothing(self):
        machines = (machine(waits(), END),)
        for told in (((), ()), ((), story(machines, "main", (), ())[1]), (story(machines, "main", (), ())[0], ())):
            self.assertIs(walks(machines, "main", (), (), told), False)
            self.assertIs(walks(machines, "main", (), (OFF,), told), False)

    def test_whole(self):
        machines = shorter(WHOLE, *made(WHOLE))[0]
        self.check(machines, good((0, 1), 3), bad((1, 2), 4), good((1, 2), 5), args=(1, 2), of=7)
        self.check(machines, OFF, args=(1, 2), of=5)


class ByDice(unittest.TestCase):
    def test_one_thing_otherwise(self):
        for seed in range(120):
            dice, machines, name, args, events = some_run_of(seed, 10)
            told = story(machines, name, args, events)
            every = list(others(told))
            for other in dice.sample(every, min(60, len(every))):
                self.assertIs(walks(machines, name, args, events, other), other == told, (seed, other))

    def test_stories_of_other_events(self):
        unlike = 0
        for seed in range(200):
            dice, machines, name, args, events = some_run_of(seed, 10)
            told = story(machines, name, args, events)
            for _ in range(4):
                changed = list(events) or [OFF]
                at = dice.randrange(len(changed))
                kind = dice.randrange(4)
                if kind == 0:
                    del changed[at]
                elif kind == 1:
                    dice.shuffle(changed)
                elif kind == 2:
                    changed.insert(at, dice.choice(changed))
                else:
                    changed[at] = OFF if changed[at] != OFF else good((0, 0), 1)
                other = story(machines, name, args, tuple(changed))
                unlike += other != told
                self.assertIs(walks(machines, name, args, events, other), other == told, seed)
        self.assertGreater(unlike, 150)


if __name__ == "__main__":
    unittest.main()
