import copy
import random
import unittest

from errandroom.errors import ErrandError, NoErrand
from errandroom.halls import bare, begun, come, result, run, waiting
from errandroom.machines import is_machines
from makings import MachineDice, machine, room
from room_oracle import OracleHall
from samples import OFF, TOP, bad, good, plain, some_event

S = [("slot", s) for s in range(4)]
ASK = (None, "ask", "sun", 1)
END = room(("give", 0))


def ask(slot=None, who="sun", n=1):
    return (slot, "ask", who, n)


def call(name, *ones, slot=None):
    return (slot, "call", name, tuple(ones))


def want(least, *branches, to):
    return ("want", least, tuple(branches), to)


def waits(*branches, off=None, fall=None, least=1, to=1, rows=()):
    """A room that wants so many of these (or one ask) and leads on to room 1."""
    return room(want(least, *(branches or (ASK,)), to=to), rows, fall, off)


def gives(n=0):
    return room(("give", n))


class Halls(unittest.TestCase):
    def hall(self, machines, *events, name="main", args=()):
        """The hall behind these events, told in one go, event by event, from bares and by the second way."""
        self.assertTrue(is_machines(machines))
        before = copy.deepcopy((machines, args, events))
        told = run(machines, name, args, events)
        self.assertEqual(run(machines, name, args, events), told)
        self.assertEqual(told, OracleHall(machines, name, args, events).hall())
        hall = begun(machines, name, args)
        stripped = bare(hall)
        for number, event in enumerate(events):
            again = copy.deepcopy(hall)
            hall, word = come(machines, hall, event)
            self.assertEqual(come(machines, again, event), (hall, word))
            self.assertEqual(hall, run(machines, name, args, events[:number + 1]))
            self.assertIn(word, ("taken", "late"))
            from_bare = come(machines, bare(again), event)
            self.assertEqual((bare(from_bare[0]), from_bare[1], from_bare[0][0]), (bare(hall), word, 1))
            stripped = come(machines, stripped, event)[0]
            self.assertEqual((bare(stripped), stripped[0]), (bare(hall), number + 1))
            self.right(machines, hall)
        self.assertEqual(hall, told)
        self.assertEqual((machines, args, events), before)
        return told

    def right(self, machines, hall):
        self.assertTrue(plain(hall))
        self.assertEqual([one[0] for one in hall[1]], sorted(one[0] for one in hall[1]))
        self.assertEqual(hall[2], tuple(sorted(hall[2])))
        for path, name, _, end, _, state in hall[1]:
            self.assertEqual(state == (), end != ())
            if state:
                (own,) = [one for one in machines if one[0] == name]
                self.assertEqual(own[3][state[0]][1][0], "want")
                self.assertEqual(len(state[1]), own[2])
                self.assertTrue(1 <= state[2] <= 5 and 0 <= state[3] <= 16)
                self.assertIs(type(state[4]), bool)
        if hall[1][0][3] == ():
            self.assertNotEqual(waiting(hall), ())

    def house(self, machines, *events, path=(), args=()):
        (found,) = [one for one in self.hall(machines, *events, args=args)[1] if one[0] == path]
        return found

    def end(self, machines, *events, path=(), args=()):
        return self.house(machines, *events, path=path, args=args)[3]

    def state(self, machines, *events, path=(), args=()):
        return self.house(machines, *events, path=path, args=args)[5]

    def diary(self, machines, *events, path=(), args=()):
        return self.house(machines, *events, path=path, args=args)[4]

    def ends(self, machines, *events):
        hall = self.hall(machines, *events)
        found = {one[0]: one[3] for one in hall[1]}
        found.update({one[0]: one[4] for one in hall[2]})
        return found


class Begun(Halls):
    def test_no_errand(self):
        machines = (machine(END, many=2), machine(END, name="sub"))
        for name, args in (("x", ()), ("", ()), ("main", ()), ("main", (1,)), ("main", (1, 2, 3)), ("sub", (0,)), ("mai", (1, 2))):
            for refusal in (NoErrand, ErrandError, ValueError):
                for told in (lambda: begun(machines, name, args), lambda: run(machines, name, args, (OFF,))):
                    with self.assertRaises(refusal) as caught:
                        told()
                    self.assertIs(type(caught.exception), NoErrand)

    def test_begun_is_the_run_without_events(self):
        machines = (machine(waits(ask(0, n=S[0])), gives(S[0]), many=1), machine(gives(7), name="sub"))
        self.assertEqual(begun(machines, "main", (9,)), (
            0, (((), "main", 0, (), (), (0, (9, 0, 0, 0), 1, 0, False)),), (((0, 0), "sun", 9, 0, ()),),
        ))
        self.assertEqual(run(machines, "main", (9,), ()), begun(machines, "main", (9,)))
        self.assertEqual(begun(machines, "sub", ()), (0, (((), "sub", 0, ("good", 7, 0), (), ()),), ()))

    def test_slots_at_first(self):
        tells = [("tell", one) for one in S]
        self.assertEqual(self.diary((machine(room(("give", 0), tells), many=2),), args=(5, TOP)), (
            (0, "tell", 5), (0, "tell", TOP), (0, "tell", 0), (0, "tell", 0),
        ))
        self.assertEqual(self.state((machine(waits(), END, slots=0),)), (0, (), 1, 0, False))


class RowsAndDoors(Halls):
    def test_rows(self):
        rows = (
            ("put", 0, 5), ("put", 1, ("+", S[0], 1)), ("put", 0, ("*", S[0], S[1])), ("tell", S[0]), ("tell", ("-", 0, S[1])),
            ("mark", "do", 3), ("mark", "undone", 23), ("mark", "undo", 0), ("mark", "done", 1),
        )
        self.assertEqual(self.diary((machine(room(("give", 0), rows)),)), (
            (0, "tell", 30), (0, "tell", TOP - 5), (0, "do", 3), (0, "undone", 23), (0, "undo", 0), (0, "done", 1),
        ))

    def test_rows_are_done_ahead_of_the_door(self):
        self.assertEqual(self.end((machine(room(("give", S[0]), [("put", 0, 4)])),)), ("good", 4, 0))
        self.assertEqual(self.end((machine(room(("fail", S[0]), [("put", 0, 4)])),)), ("bad", 4, 0))

    def test_go(self):
        machines = (machine(room(("go", 2), [("tell", 1)]), room(("give", 8), [("tell", 3)]), room(("go", 1), [("tell", 2)])),)
        self.assertEqual(self.diary(machines), ((0, "tell", 1), (0, "tell", 2), (0, "tell", 3)))
        self.assertEqual(self.end(machines), ("good", 8, 0))

    def test_fork(self):
        machines = (machine(room(("fork", S[0], 1, 2)), gives(1), gives(2), many=1),)
        for n, told in ((0, 2), (1, 1), (2, 1), (TOP, 1)):
            self.assertEqual(self.end(machines, args=(n,)), ("good", told, 0))

    def test_give_and_fail(self):
        self.assertEqual(self.end((machine(gives(("+", S[0], 3)), many=1),), args=(4,)), ("good", 7, 0))
        self.assertEqual(self.end((machine(room(("fail", ("+", S[0], 3))), many=1),), args=(4,)), ("bad", 7, 0))

    def test_faults_by_their_fall(self):
        self.assertEqual(self.end((machine(room(("fail", 7))),)), ("bad", 7, 0))
        for slot, told in ((None, (0, 0, 0, 0)), (0, (7, 0, 0, 0)), (3, (0, 0, 0, 7))):
            machines = (machine(room(("fail", 7), fall=(slot, 1)), waits(to=2), END),)
            self.assertEqual(self.state(machines), (1, told, 1, 0, False))

    def test_falls_and_offs_of_other_doors_are_never_gone(self):
        for door in (("go", 2), ("fork", 1, 2, 2), ("give", 5), ("round", 2)):
            self.assertEqual(self.end((machine(room(door, fall=(0, 1), off=1), gives(9), gives(5)),)), ("good", 5, 0))

    def test_rounds(self):
        count = room(("fork", ("<", S[1], S[0]), 1, 3))
        rows = [("put", 1, ("+", S[1], 1)), ("tell", S[1])]
        machines = (machine(count, room(("round", 2)), room(("go", 0), rows), gives(S[1]), many=1),)
        self.assertEqual(self.end(machines, args=(15,)), ("good", 15, 0))
        self.assertEqual(self.end(machines, args=(16,)), ("good", 16, 0))
        self.assertEqual(self.end(machines, args=(17,)), ("bad", 1, 0))
        self.assertEqual(self.diary(machines, args=(17,)), tuple((0, "tell", n) for n in range(1, 17)))

    def test_the_fault_of_the_seventeenth_round_falls_each_time(self):
        rooms = (
            room(("round", 0), fall=(1, 1)), room(("round", 0), [("tell", S[1]), ("put", 1, 0)], fall=(None, 2)),
            waits(to=3, rows=[("tell", S[1])]), END,
        )
        self.assertEqual(self.diary((machine(*rooms),)), ((0, "tell", 1), (0, "tell", 0)))
        self.assertEqual(self.state((machine(*rooms),)), (2, (0, 0, 0, 0), 1, 16, False))

    def test_a_room_may_lead_to_itself_by_a_round(self):
        machines = (machine(room(("round", 0), [("tell", 1)])),)
        self.assertEqual(self.end(machines), ("bad", 1, 0))
        self.assertEqual(self.diary(machines), ((0, "tell", 1),) * 17)


class Wants(Halls):
    def test_reached(self):
        machines = (machine(waits(ask(0), ask(1), ask(2), least=2), waits(to=2), END),)
        self.assertEqual(self.state(machines), (0, (0, 0, 0, 0), 1, 0, False))
        self.assertEqual(self.state(machines, good((0, 2), 5)), (0, (0, 0, 0, 0), 1, 0, False))
        self.assertEqual(self.state(machines, good((0, 2), 5), good((0, 1), 6)), (1, (0, 6, 5, 0), 2, 0, False))
        ends = self.ends(machines, good((0, 2), 5), good((0, 1), 6))
        self.assertEqual((ends[(0, 0)], ends[(0, 1)], ends[(0, 2)]), (("off", 0, 2), ("good", 6, 2), ("good", 5, 1)))

    def test_slots_are_set_in_order_of_the_branches(self):
        machines = (machine(waits(ask(0), ask(0), ask(1), least=3), waits(to=2), END),)
        events = [good((0, 2), 3), good((0, 1), 2), good((0, 0), 1)]
        self.assertEqual(self.state(machines, *events)[1], (2, 3, 0, 0))
        machines = (machine(waits(ask(None), ask(2), least=2), waits(to=2), END),)
        self.assertEqual(self.state(machines, good((0, 0), 8), good((0, 1), 9))[1], (0, 0, 9, 0))

    def test_missed(self):
        for fall, told in ((None, ("bad", 6, 2)), ((None, 1), ("good", 0, 2)), ((3, 1), ("good", 6, 2))):
            machines = (machine(waits(ask(0), ask(1), ask(2), least=2, fall=fall), gives(S[3])),)
            self.assertEqual(self.end(machines, bad((0, 2), 5)), ())
            # The fault is that of the first bad branch in the order of the branches.
            self.assertEqual(self.end(machines, bad((0, 2), 5), bad((0, 1), 6)), told)
            self.assertEqual(self.ends(machines, bad((0, 2), 5), bad((0, 1), 6))[(0, 0)], ("off", 0, 2))

    def test_missed_sets_no_slot(self):
        machines = (machine(waits(ask(0), ask(1), least=2, fall=(3, 1), to=2), waits(to=2), END),)
        self.assertEqual(self.state(machines, good((0, 0), 5), bad((0, 1), 6)), (1, (0, 0, 0, 6), 2, 0, False))

    def test_more_good_than_wanted_in_one_hour(self):
        machines = (machine(waits(call("sub", 5, slot=0), ask(1), call("sub", 6, slot=2)), waits(to=2), END), machine(gives(S[0]), name="sub", many=1))
        self.assertEqual(self.state(machines), (1, (5, 0, 6, 0), 2, 0, False))
        self.assertEqual(self.ends(machines)[(0, 1)], ("off", 0, 0))

    def test_sixth_want(self):
        again = waits(ask(0), to=0)
        answers = [good((t, 0), t + 3) for t in range(5)]
        self.assertEqual(self.end((machine(again),), *answers), ("bad", 3, 5))
        self.assertEqual(self.state((machine(again),), *answers[:4]), (0, (6, 0, 0, 0), 5, 0, False))
        for slot, told in ((None, 7), (0, 3)):
            machines = (machine(waits(ask(0), to=0, fall=(slot, 1)), gives(S[0])),)
            self.assertEqual(self.end(machines, *answers), ("good", told, 5))
        self.assertEqual(sorted(self.ends((machine(again),), *answers)), [()] + [(t, 0) for t in range(5)])

    def test_calls(self):
        machines = (
            machine(waits(call("sub", S[0], 4, slot=1), ask(2), least=2), gives(("+", S[1], S[2])), many=1),
            machine(waits(ask(0, who="moon", n=S[1])), gives(("*", S[0], S[1])), name="sub", many=2),
        )
        told = self.hall(machines, args=(3,))
        self.assertEqual(told, (
            0,
            (((), "main", 0, (), (), (0, (3, 0, 0, 0), 1, 0, False)), ((0, 0), "sub", 0, (), (), (0, (3, 4, 0, 0), 1, 0, False))),
            (((0, 0, 0, 0), "moon", 4, 0, ()), ((0, 1), "sun", 1, 0, ())),
        ))
        self.assertEqual(self.end(machines, good((0, 0, 0, 0), 5), path=(0, 0), args=(3,)), ("good", 20, 1))
        self.assertEqual(self.end(machines, good((0, 0, 0, 0), 5), good((0, 1), 1), args=(3,)), ("good", 21, 2))

    def test_a_call_from_a_path_of_four_numbers(self):
        machines = (machine(waits(call("main", slot=0), ask(1), fall=(2, 1)), gives(("+", S[1], ("*", 10, S[2])))),)
        hall = self.hall(machines)
        self.assertEqual([one[0] for one in hall[1]], [(), (0, 0), (0, 0, 0, 0)])
        self.assertEqual(waiting(hall), (((0, 0, 0, 0, 0, 1), "sun", 1), ((0, 0, 0, 1), "sun", 1), ((0, 1), "sun", 1)))
        # Behind the bad call one bad answer more misses the want; it stands first among the bad ones.
        self.assertEqual(self.ends(machines, bad((0, 0, 0, 0, 0, 1), 9))[(0, 0, 0, 0)], ("good", 20, 1))
        self.assertEqual(self.ends(machines, good((0, 0, 0, 0, 0, 1), 9))[(0, 0, 0, 0)], ("good", 9, 1))
        both = (machine(waits(call("main", slot=0), ask(1), least=2, fall=(2, 1)), gives(("+", S[1], ("*", 10, S[2])))),)
        ends = self.ends(both)
        self.assertEqual((ends[(0, 0, 0, 0)], ends[(0, 0, 0, 0, 0, 1)]), (("good", 20, 0), ("off", 0, 0)))
        # Well come, the deepest house lets the one above wait for its ask.
        self.assertEqual((ends[(0, 0)], ends[(0, 0, 0, 1)]), ((), ()))


class CalledOff(Halls):
    def test_waiting_where_off_is_none(self):
        machines = (machine(waits(ask(0), ask(1), least=2, fall=(3, 1)), gives(9)),)
        self.assertEqual(self.ends(machines, good((0, 0), 4), OFF), {(): ("off", 0, 2), (0, 0): ("good", 4, 1), (0, 1): ("off", 0, 2)})

    def test_waiting_where_off_is_a_room(self):
        machines = (machine(waits(ask(0), off=2, fall=(3, 1)), gives(9), waits(ask(1), to=3, off="shut", rows=[("tell", S[0])]), gives(5)),)
        self.assertEqual(self.state(machines, OFF), (2, (0, 0, 0, 0), 2, 0, True))
        self.assertEqual(self.ends(machines, OFF), {(): (), (0, 0): ("off", 0, 1), (1, 0): ()})
        self.assertEqual(self.diary(machines, OFF), ((1, "tell", 0),))
        # Whatever it gives then, it ends off.
        self.assertEqual(self.end(machines, OFF, good((1, 0), 7)), ("off", 0, 2))

    def test_waiting_where_off_is_shut(self):
        machines = (machine(waits(ask(0), off="shut"), gives(S[0])),)
        self.assertEqual(self.state(machines, OFF), (0, (0, 0, 0, 0), 1, 0, True))
        self.assertEqual(self.ends(machines, OFF), {(): (), (0, 0): ()})
        self.assertEqual(self.ends(machines, OFF, good((0, 0), 4)), {(): ("off", 0, 2), (0, 0): ("good", 4, 2)})
        self.assertEqual(self.ends(machines, good((0, 0), 4), OFF)[()], ("good", 4, 1))

    def test_noted_it_goes_on_as_ever(self):
        rooms = (
            waits(ask(0), ask(1), off="shut", fall=(3, 3)), waits(ask(2), to=2, off="shut", rows=[("tell", S[0]), ("tell", S[1])]),
            gives(1), waits(to=2, off="shut", rows=[("tell", S[3])]),
        )
        machines = (machine(*rooms),)
        self.assertEqual(self.state(machines, OFF, good((0, 1), 5)), (1, (0, 5, 0, 0), 2, 0, True))
        self.assertEqual(self.diary(machines, OFF, good((0, 1), 5)), ((2, "tell", 0), (2, "tell", 5)))
        self.assertEqual(self.state(machines, OFF, bad((0, 1), 5), bad((0, 0), 6)), (3, (0, 0, 0, 6), 2, 0, True))
        self.assertEqual(self.end(machines, OFF, bad((0, 1), 5), bad((0, 0), 6), good((1, 0))), ("off", 0, 4))

    def test_out_by_a_house_that_was_not_called_off(self):
        for off in (None, "shut", 1):
            for fall, told in ((None, ("bad", 7, 0)), ((None, 2), ("good", 0, 0)), ((1, 2), ("good", 7, 0))):
                machines = (machine(room(("out", 0), [("put", 0, 7)], fall, off), gives(99), gives(S[1])),)
                self.assertEqual(self.end(machines), told)

    def out_when_called(self, off, fall):
        """Called off in a shut room, then through one with out."""
        rooms = (waits(ask(0), off="shut"), room(("out", 0), fall=fall, off=off), waits(to=4, off="shut", rows=[("tell", S[1])]))
        return (machine(*rooms, waits(to=4, off="shut", rows=[("tell", 50)]), END),)

    def test_out_by_a_house_that_was_called_off(self):
        for fall in (None, (None, 2), (1, 2)):
            self.assertEqual(self.end(self.out_when_called(None, fall), OFF, good((0, 0), 7)), ("off", 0, 2))
            machines = self.out_when_called(3, fall)
            self.assertEqual(self.state(machines, OFF, good((0, 0), 7)), (3, (7, 0, 0, 0), 2, 0, True))
            self.assertEqual(self.diary(machines, OFF, good((0, 0), 7)), ((2, "tell", 50),))

    def test_out_by_a_house_that_was_called_off_where_it_is_shut(self):
        self.assertEqual(self.end(self.out_when_called("shut", None), OFF, good((0, 0), 7)), ("off", 0, 2))
        self.assertEqual(self.state(self.out_when_called("shut", (None, 2)), OFF, good((0, 0), 7)), (2, (7, 0, 0, 0), 2, 0, True))
        machines = self.out_when_called("shut", (1, 2))
        self.assertEqual(self.state(machines, OFF, good((0, 0), 7)), (2, (7, 7, 0, 0), 2, 0, True))
        self.assertEqual(self.diary(machines, OFF, good((0, 0), 7)), ((2, "tell", 7),))

    def test_called_off_it_comes_to_a_want_that_is_not_shut(self):
        for off, told in ((None, ("off", 0, 2)), (2, ())):
            rooms = (waits(ask(0), off="shut"), waits(ask(1), call("main"), to=0, off=off, rows=[("tell", 5)], fall=(3, 3)))
            machines = (machine(*rooms, waits(ask(2), to=3, off="shut", rows=[("tell", 6)]), gives(1)),)
            house = self.house(machines, OFF, good((0, 0), 7))
            self.assertEqual(house[3], told)
            # Nothing is begun there: the next want is the second one.
            self.assertEqual(house[5], () if off is None else (2, (7, 0, 0, 0), 2, 0, True))
            self.assertEqual(house[4], ((2, "tell", 5),) if off is None else ((2, "tell", 5), (2, "tell", 6)))
            self.assertEqual(sorted(self.ends(machines, OFF, good((0, 0), 7))), [(), (0, 0)] + ([] if off is None else [(1, 0)]))

    def test_called_off_it_goes_out_of_a_sixth_want_too(self):
        rooms = (waits(ask(0), off="shut", to=1), room(("fork", ("<", S[0], 5), 0, 2)), waits(off=3, fall=(1, 4), to=4), gives(1), waits(to=3, off="shut"))
        answers = [good((t, 0), t + 1) for t in range(5)]
        machines = (machine(*rooms),)
        self.assertEqual(self.end(machines, *answers), ("bad", 3, 5))
        self.assertEqual(self.end(machines, OFF, *answers), ("off", 0, 6))
        shut = (machine(*rooms[:2], waits(off="shut", fall=(1, 3), to=4), room(("give", 1), [("tell", S[1])]), END),)
        self.assertEqual(self.diary(shut, OFF, *answers), ((6, "tell", 3),))
        self.assertEqual(self.end(shut, OFF, *answers), ("off", 0, 6))

    def test_called_off_it_comes_to_a_give_or_a_fault(self):
        for door in (("give", 5), ("fail", 5), ("round", 1), ("out", 0), ("give", S[0])):
            machines = (machine(waits(ask(0), off="shut"), room(door)),)
            self.assertEqual(self.end(machines, OFF, good((0, 0), 7)), ("off", 0, 2))
        machines = (machine(waits(ask(0), off="shut"), gives(1)),)
        self.assertEqual(self.end(machines, OFF, bad((0, 0), 7)), ("off", 0, 2))

    def test_called_off_a_fault_is_caught_as_ever(self):
        machines = (machine(waits(ask(0), off="shut"), room(("fail", 5), fall=(1, 2)), waits(off="shut", to=3, rows=[("tell", S[1])]), END),)
        self.assertEqual(self.diary(machines, OFF, good((0, 0), 7)), ((2, "tell", 5),))

    def test_late_offs(self):
        machines = (machine(waits(ask(0), off="shut"), waits(to=2, off="shut"), END),)
        hall = begun(machines, "main", ())
        words = []
        for event in (OFF, OFF, good((0, 0)), OFF, good((1, 0)), OFF):
            hall, word = come(machines, hall, event)
            words.append(word)
        self.assertEqual(words, ["taken", "late", "taken", "late", "taken", "late"])
        self.assertEqual(hall[0], 6)

    def test_branches_are_called_off_and_undo(self):
        sub = machine(waits(off=2), gives(3), waits(off="shut", rows=[("mark", "undo", 0)], to=3), gives(4), name="sub")
        machines = (machine(waits(ask(0), call("sub", slot=1)), gives(("+", S[0], S[1]))), sub)
        ends = self.ends(machines, good((0, 0), 5))
        self.assertEqual((ends[()], ends[(0, 1)], ends[(0, 1, 0, 0)], ends[(0, 1, 1, 0)]), ((), (), ("off", 0, 1), ()))
        self.assertEqual(self.state(machines, good((0, 0), 5), path=(0, 1)), (2, (0, 0, 0, 0), 2, 0, True))
        self.assertEqual(self.state(machines, good((0, 0), 5)), (0, (0, 0, 0, 0), 1, 0, False))
        ends = self.ends(machines, good((0, 0), 5), bad((0, 1, 1, 0), 8))
        self.assertEqual((ends[()], ends[(0, 1)]), (("good", 5, 2), ("off", 0, 2)))

    def test_called_off_while_its_want_was_decided_ahead(self):
        sub = machine(waits(off=2), gives(3), waits(off="shut", to=3), gives(4), name="sub")
        last = good((0, 1, 1, 0))
        for off, told in ((None, ("off", 0, 3)), (2, ("off", 0, 3)), ("shut", ("off", 0, 3))):
            machines = (machine(waits(ask(0), call("sub"), off=off), room(("give", 1), [("tell", S[0])]), room(("give", 2), [("tell", 9)])), sub)
            self.assertEqual(self.end(machines, good((0, 0), 5), OFF), ())
            self.assertEqual(self.end(machines, good((0, 0), 5), OFF, last), told)
            diary = {None: (), 2: ((3, "tell", 9),), "shut": ((3, "tell", 5),)}[off]
            self.assertEqual(self.diary(machines, good((0, 0), 5), OFF, last), diary)

    def test_houses_beneath_one_that_is_shut_are_left_alone(self):
        sub = machine(waits(ask(0)), gives(S[0]), name="sub")
        machines = (machine(waits(call("sub", slot=0), off="shut"), room(("give", 0), [("tell", S[0])])), sub)
        self.assertEqual(self.state(machines, OFF, path=(0, 0)), (0, (0, 0, 0, 0), 1, 0, False))
        self.assertEqual(self.diary(machines, OFF, good((0, 0, 0, 0), 6)), ((2, "tell", 6),))


class Told(Halls):
    MACHINES = (
        machine(waits(ask(0), call("sub", 5, slot=1), least=2, off=2, fall=(2, 2), rows=[("mark", "do", 0)]), gives(S[1]),
                room(("out", 2), [("mark", "undo", 0), ("mark", "undone", 0)])),
        machine(waits(ask(0, n=S[0])), gives(S[0]), name="sub", many=1),
    )

    def test_waiting_and_result(self):
        hall = begun(self.MACHINES, "main", ())
        self.assertEqual((waiting(hall), result(hall)), ((((0, 0), "sun", 1), ((0, 1, 0, 0), "sun", 5)), None))
        hall = self.hall(self.MACHINES, good((0, 1, 0, 0), 8))
        self.assertEqual((waiting(hall), result(hall)), ((((0, 0), "sun", 1),), None))
        for event, told in ((good((0, 0), 3), ("good", 8)), (bad((0, 0), 3), ("bad", 3)), (OFF, ("off", 0))):
            hall = self.hall(self.MACHINES, good((0, 1, 0, 0), 8), event)
            self.assertEqual((waiting(hall), result(hall)), ((), told))
            later = come(self.MACHINES, hall, OFF)[0]
            self.assertEqual((waiting(later), result(later)), ((), told))

    def test_bare(self):
        hall = self.hall(self.MACHINES, good((9, 9)), bad((0, 0), 7))
        self.assertEqual(hall, (
            2,
            (
                ((), "main", 0, ("bad", 7, 2), ((0, "do", 0), (2, "undo", 0), (2, "undone", 0)), ()),
                ((0, 1), "sub", 0, ("off", 0, 2), (), ()),
            ),
            (((0, 0), "sun", 1, 0, ("bad", 7, 2)), ((0, 1, 0, 0), "sun", 5, 0, ("off", 0, 2))),
        ))
        self.assertEqual(bare(hall), (
            0,
            (
                ((), "main", 0, ("bad", 7, 0), ((0, "do", 0), (0, "undo", 0), (0, "undone", 0)), ()),
                ((0, 1), "sub", 0, ("off", 0, 0), (), ()),
            ),
            (((0, 0), "sun", 1, 0, ("bad", 7, 0)), ((0, 1, 0, 0), "sun", 5, 0, ("off", 0, 0))),
        ))
        self.assertEqual(bare(bare(hall)), bare(hall))
        # What begins and is sent later loses its hours, too.
        again = (machine(waits(ask(0)), waits(call("sub", 2), to=2), END), self.MACHINES[1])
        hall = self.hall(again, good((5, 5)), good((0, 0), 1))
        self.assertEqual([one[2] for one in hall[1]] + [one[3] for one in hall[2]], [0, 2, 0, 2])
        self.assertEqual([one[2] for one in bare(hall)[1]] + [one[3] for one in bare(hall)[2]], [0, 0, 0, 0])
        self.assertEqual([one[5] for one in bare(hall)[1]], [one[5] for one in hall[1]])

    def test_late_answers(self):
        hall = begun(self.MACHINES, "main", ())
        for event in (good((0, 1)), bad(()), good((0,)), good((0, 2)), good((0, 1, 0, 1)), good((1, 0)), good((9,) * 6)):
            later, word = come(self.MACHINES, hall, event)
            self.assertEqual((word, later), ("late", (hall[0] + 1,) + hall[1:]))
        once = come(self.MACHINES, hall, good((0, 0), 3))
        self.assertEqual(once[1], "taken")
        self.assertEqual(come(self.MACHINES, once[0], bad((0, 0), 4)), ((2,) + once[0][1:], "late"))
        self.assertEqual(self.hall(self.MACHINES, good((9, 9)), good((0, 0), 3))[2][0][4], ("good", 3, 2))

    def test_very_many_events(self):
        late = [good((9, 9))] * 148
        hall = run(self.MACHINES, "main", (), late + [good((0, 0), 1), good((0, 1, 0, 0), 2)])
        self.assertEqual((hall[0], hall[1][0][3]), (150, ("good", 2, 150)))

    def test_nothing_handed_in_is_changed_or_kept(self):
        machines = copy.deepcopy(self.MACHINES)
        hall = run(machines, "main", (), (good((0, 0), 3),))
        before = copy.deepcopy(hall)
        for event in (OFF, good((0, 1, 0, 0), 4), good((0, 0), 5)):
            self.assertEqual(come(machines, hall, event), come(machines, hall, event))
            self.assertEqual((machines, hall), (self.MACHINES, before))
        self.assertEqual((waiting(hall), bare(hall)), (waiting(before), bare(before)))


class ByDice(Halls):
    def test_unlike_machines(self):
        seen = {}
        for seed in range(500):
            dice = random.Random(seed)
            machines = MachineDice(dice).machines()
            args = tuple(dice.choice((0, 1, 2, 5)) for _ in range(machines[0][1]))
            hall, events = begun(machines, machines[0][0], args), ()
            for _ in range(dice.randint(0, 14)):
                events += (some_event(dice, [one[0] for one in waiting(hall)]),)
                hall = come(machines, hall, events[-1])[0]
            hall = self.hall(machines, *events, name=machines[0][0], args=args)
            for one in hall[1]:
                kind = (one[3][0] if one[3] else "waits", bool(one[5] and one[5][4]), len(one[0]))
                seen[kind] = seen.get(kind, 0) + 1
        for path in (0, 2, 4):
            for kind in (("good", False), ("bad", False), ("off", False), ("waits", False)):
                self.assertGreater(seen.get(kind + (path,), 0), 5, kind + (path,))
        self.assertGreater(seen[("waits", True, 0)], 5)


if __name__ == "__main__":
    unittest.main()
