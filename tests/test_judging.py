import copy
import random
import unittest

from errandroom.halls import begun, come, waiting
from errandroom.hours import meant
from errandroom.judging import judged
from errandroom.machines import is_machines
from errandroom.making import made
from errandroom.programs import is_program
from makings import Changes, machine, other_making, replaced, room
from room_oracle import OracleJudge
from samples import OFF, ProgramDice, bad, good, some_event

S = [("slot", s) for s in range(6)]
SUB = ("sub", ("a",), (("give", "a"),))
SUB_MACHINE = ("sub", 1, 1, (room(("give", S[0])),))
SUB_PAPER = (((0,), (("a", 0),)),)
END = room(("give", 0))


def runs_as_meant(test, program, machines, name, args, events):
    """The hall behind each event has, but for states, what the program means."""
    hall = begun(machines, name, args)
    for count in range(len(events) + 1):
        if count:
            hall = come(machines, hall, events[count - 1])[0]
        told = (tuple(house[:5] for house in hall[1]), hall[2])
        test.assertEqual(told, meant(program, name, args, events[:count]))


def some_run(test, dice, program, machines, longest=10):
    name = program[0][0]
    args = tuple(dice.choice((0, 1, 2, 5)) for _ in program[0][1])
    hall, events = begun(machines, name, args), ()
    for _ in range(dice.randint(0, longest)):
        events += (some_event(dice, [one[0] for one in waiting(hall)]),)
        hall = come(machines, hall, events[-1])[0]
    runs_as_meant(test, program, machines, name, args, events)


class Judging(unittest.TestCase):
    """Each case is an errand main and its machine; an errand sub that gives what it is handed stands beside it."""

    params = ()

    def told(self, rows, rooms, pairs):
        program = (("main", self.params, tuple(rows)), SUB)
        machines = (machine(*rooms, many=len(self.params), slots=6), SUB_MACHINE)
        paper = (tuple((place, tuple(kept)) for place, kept in pairs), SUB_PAPER)
        self.assertTrue(is_program(program))
        self.assertTrue(is_machines(machines))
        before = copy.deepcopy((program, machines, paper))
        told = judged(program, machines, paper)
        self.assertEqual(judged(program, machines, paper), told)
        self.assertEqual((program, machines, paper), before)
        self.assertEqual(OracleJudge(program, machines, paper).unkept[:1], [] if told is None else [told])
        if told is None:
            dice = random.Random(1)
            for events in ((), (OFF,), (good((0, 0), 3),), (bad((0, 0), 4),), (good((0, 1), 3), OFF, bad((0, 0), 2), good((1, 0), 5))):
                runs_as_meant(self, program, machines, "main", tuple(dice.randrange(3) for _ in self.params), events)
        return told

    def kept(self, rows, rooms, pairs):
        self.assertIsNone(self.told(rows, rooms, pairs))

    def unkept(self, rows, rooms, pairs, r=0):
        self.assertEqual(self.told(rows, rooms, pairs), (0, r))

    def each_unkept(self, rows, rooms, pairs, r, others):
        """Kept as it is, and not with any of these for the room r."""
        self.kept(rows, rooms, pairs)
        for other in others:
            self.unkept(rows, replaced(tuple(rooms), r, other), pairs, r)


class PlainRows(Judging):
    params = ("a",)
    ROWS = (("set", "x", ("+", "a", 1)), ("tell", "x"), ("give", ("-", "x", "a")))
    PUT, TELL, GIVE = ("put", 1, ("+", S[0], 1)), ("tell", S[1]), ("give", ("-", S[1], S[0]))
    FIRST = ((0,), [("a", 0)])

    def test_in_one_room(self):
        self.each_unkept(self.ROWS, (room(self.GIVE, [self.PUT, self.TELL]),), [self.FIRST], 0, [
            room(self.GIVE, [("put", 1, ("+", S[0], 2)), self.TELL]), room(self.GIVE, [("put", 1, ("+", S[1], 1)), self.TELL]),
            room(self.GIVE, [("put", 1, ("-", S[0], 1)), self.TELL]), room(self.GIVE, [("put", 1, S[0]), self.TELL]),
            room(self.GIVE, [("put", 1, ("+", 1, S[0])), self.TELL]), room(self.GIVE, [("put", 2, ("+", S[0], 1)), self.TELL]),
            room(self.GIVE, [self.PUT, ("tell", S[0])]), room(self.GIVE, [self.PUT, ("tell", 1)]), room(self.GIVE, [self.PUT]),
            room(self.GIVE, [self.TELL]), room(self.GIVE, [self.TELL, self.PUT]), room(self.GIVE, [self.PUT, self.PUT, self.TELL]),
            room(self.GIVE, [self.PUT, self.TELL, self.TELL]), room(self.GIVE, [self.PUT, ("mark", "do", 0), self.TELL]), room(self.GIVE),
            room(("give", ("-", S[0], S[1])), [self.PUT, self.TELL]), room(("give", 0), [self.PUT, self.TELL]),
            room(("fail", self.GIVE[1]), [self.PUT, self.TELL]), room(("round", 0), [self.PUT, self.TELL]),
            room(self.GIVE, [self.PUT, self.TELL], fall=(None, 0)), room(self.GIVE, [self.PUT, self.TELL], fall=(1, 0)),
            room(self.GIVE, [self.PUT, self.TELL], off="shut"), room(self.GIVE, [self.PUT, self.TELL], off=0),
            room(("out", 0), [self.PUT, self.TELL]),
        ])

    def test_by_gos(self):
        rooms = (room(("go", 2), [self.PUT]), room(self.GIVE), room(("go", 1), [self.TELL]))
        pairs = [self.FIRST, ((2,), [("a", 0), ("x", 1)]), ((1,), [("a", 0), ("x", 1)])]
        self.each_unkept(self.ROWS, rooms, pairs, 0, [
            room(("go", 1), [self.PUT]), room(("go", 2), [self.PUT, self.TELL]), room(("go", 2)), room(("go", 2), [self.PUT], fall=(None, 1)),
            room(("go", 2), [self.PUT], off="shut"), room(("go", 2), [self.PUT], off=1), room(("go", 2), [("put", 2, ("+", S[0], 1))]),
            room(("fork", 1, 2, 2), [self.PUT]), room(("round", 2), [self.PUT]),
        ])
        self.each_unkept(self.ROWS, rooms, pairs, 2, [room(("go", 1), [("tell", S[2])]), room(("go", 1))])
        # A go needs a row ahead of it, even where all would be right.
        self.unkept(self.ROWS, (room(("go", 1)), room(self.GIVE, [self.PUT, self.TELL])), [self.FIRST, self.FIRST])

    def test_a_go_at_the_end_and_past_it(self):
        self.kept((("tell", 1),), (room(("go", 1), [("tell", 1)]), END), [((0,), ()), ((1,), ())])
        self.kept((("tell", 1),), (room(("give", 0), [("tell", 1)]),), [((0,), ())])
        self.unkept((("tell", 1),), (room(("give", 1), [("tell", 1)]),), [((0,), ())])
        self.unkept((("tell", 1),), (room(("give", S[1]), [("tell", 1)]),), [((0,), [("x", 1)])])
        self.unkept((("tell", 1),), (END,), [((0,), ())])
        self.kept((), (END,), [((0,), ())])
        self.unkept((), (room(("give", 1)),), [((0,), ())])

    def test_names_that_are_not_held(self):
        self.unkept(self.ROWS, (room(self.GIVE, [self.PUT, self.TELL]),), [((0,), ())])
        rooms = (room(("go", 1), [self.PUT]), room(self.GIVE, [self.TELL]))
        self.kept(self.ROWS, rooms, [self.FIRST, ((1,), [("a", 0), ("x", 1)])])
        self.unkept(self.ROWS, rooms, [self.FIRST, ((1,), [("x", 1)])], 1)
        self.unkept(self.ROWS, rooms, [self.FIRST, ((1,), [("a", 0)])], 1)
        # Room 0 comes ahead, since it does not hold what room 1 says.
        self.unkept(self.ROWS, rooms, [self.FIRST, ((1,), [("a", 0), ("x", 2)])], 0)
        self.unkept(self.ROWS, rooms, [self.FIRST, ((1,), [("a", 1), ("x", 0)])], 0)

    def test_a_key_lies_alone(self):
        rows = (("set", "x", "a"), ("tell", "x"))
        self.kept(rows, (room(("give", 0), [("put", 0, S[0]), ("tell", S[0])]),), [self.FIRST])
        rows = (("set", "x", "a"), ("tell", "a"))
        self.kept(rows, (room(("give", 0), [("put", 1, S[0]), ("tell", S[0])]),), [self.FIRST])
        self.unkept(rows, (room(("give", 0), [("put", 0, S[0]), ("tell", S[0])]),), [self.FIRST])
        # Set anew elsewhere, the name is held no more where it lay.
        rows = (("set", "x", 1), ("set", "x", 2), ("tell", "x"))
        for told, slot in (("kept", 2), ("unkept", 1)):
            getattr(self, told)(rows, (room(("give", 0), [("put", 1, 1), ("put", 2, 2), ("tell", S[slot])]),), [((0,), ())])
        rooms = lambda slot: (room(("go", 1), [("put", 1, 1), ("put", slot, 2)]), room(("give", 0), [("tell", S[2])]))
        self.kept(rows, rooms(2), [((0,), ()), ((2,), [("x", 2)])])
        self.unkept(rows, rooms(1), [((0,), ()), ((2,), [("x", 2)])])

    def test_an_e_is_reckoned_ahead_of_the_put(self):
        rows = (("set", "a", ("+", "a", 1)), ("tell", "a"))
        self.kept(rows, (room(("give", 0), [("put", 3, ("+", S[0], 1)), ("tell", S[3])]),), [self.FIRST])
        self.unkept(rows, (room(("give", 0), [("put", 3, ("+", S[3], 1)), ("tell", S[3])]),), [self.FIRST])

    def test_less_may_be_kept_than_is_held(self):
        rooms = (room(("go", 1), [self.PUT]), room(("go", 2), [self.TELL]), room(self.GIVE))
        both = [("a", 0), ("x", 1)]
        self.kept(self.ROWS, rooms, [self.FIRST, ((1,), both), ((2,), both)])
        self.kept(self.ROWS[:2], (rooms[0], rooms[1], END), [self.FIRST, ((1,), [("x", 1)]), ((2,), ())])
        # Not kept once, it is not held later.
        self.unkept(self.ROWS, rooms, [self.FIRST, ((1,), [("x", 1)]), ((2,), both)], 1)


class Forks(Judging):
    params = ("a",)

    def test_if(self):
        rows = (("if", ("<", "a", 2), (("tell", 1),), (("tell", 2),)), ("tell", "a"))
        rooms = (
            room(("fork", ("<", S[0], 2), 1, 2)), room(("go", 3), [("tell", 1)]), room(("go", 3), [("tell", 2)]),
            room(("give", 0), [("tell", S[0])]),
        )
        held = [("a", 0)]
        # The end of a block slides behind the if, so each of these says the same.
        for last in ((1,), (0, 0, 1), (0, 1, 1)):
            pairs = [((0,), held), ((0, 0, 0), held), ((0, 1, 0), held), (last, held)]
            self.each_unkept(rows, rooms, pairs, 0, [
                room(("fork", ("<", S[0], 2), 2, 1)), room(("fork", ("<", S[0], 2), 1, 1)), room(("fork", ("<", S[0], 2), 2, 2)),
                room(("fork", ("<", S[0], 2), 1, 3)), room(("fork", ("<", S[0], 2), 3, 2)), room(("fork", ("<", S[0], 3), 1, 2)),
                room(("fork", ("<", S[1], 2), 1, 2)), room(("fork", S[0], 1, 2)), room(("fork", ("<", S[0], 2), 1, 2), fall=(None, 3)),
                room(("fork", ("<", S[0], 2), 1, 2), off="shut"), room(("fork", ("<", S[0], 2), 1, 2), off=3), room(("go", 1)),
                room(("fork", ("<", S[0], 2), 1, 2), [("tell", 1)]), room(("round", 1)), room(("give", 0)),
            ])
        for wrong in ((2,), (0,), (0, 0, 0)):
            self.unkept(rows, rooms, [((0,), held), ((0, 0, 0), held), ((0, 1, 0), held), (wrong, held)], 1)
        self.unkept(rows, rooms, [((0,), held), ((0, 0, 0), held), ((0, 1, 0), ()), ((1,), held)], 2)

    def test_if_with_blocks_without_rows(self):
        rows = (("if", "a", (), ()), ("tell", 1))
        self.kept(rows, (room(("fork", S[0], 1, 1)), room(("give", 0), [("tell", 1)])), [((0,), [("a", 0)]), ((1,), ())])

    WHILE = (("while", ("<", "x", "a"), (("set", "x", ("+", "x", 1)),)), ("tell", "x"))
    ROOMS = (
        room(("fork", ("<", S[1], S[0]), 1, 3)), room(("round", 2)), room(("go", 0), [("put", 1, ("+", S[1], 1))]),
        room(("give", 0), [("tell", S[1])]),
    )
    HELD = [("a", 0), ("x", 1)]
    PAIRS = [((0,), HELD), ((0, 0), HELD), ((0, 0, 0), HELD), ((1,), HELD)]

    def test_while(self):
        fork = self.ROOMS[0][1]
        self.each_unkept(self.WHILE, self.ROOMS, self.PAIRS, 0, [
            room(("fork", fork[1], 3, 3)), room(("fork", fork[1], 3, 1)), room(("fork", fork[1], 1, 1)), room(("fork", S[0], 1, 3)),
            room(("fork", fork[1], 1, 3), fall=(None, 3)), room(("round", 2)), room(("round", 1)),
        ])

    def test_round(self):
        self.each_unkept(self.WHILE, self.ROOMS, self.PAIRS, 1, [
            room(("round", 3)), room(("round", 1)), room(("round", 0)), room(("round", 2), fall=(None, 3)), room(("round", 2), fall=(1, 3)),
            room(("round", 2), off=3), room(("round", 2), off="shut"), room(("round", 2), [("tell", 1)]), room(("give", 0)),
        ])

    def test_a_while_leads_to_its_round_and_not_past_it(self):
        rows = (("while", "a", (("give", 3),)),)
        rooms = (room(("fork", S[0], 1, 3)), room(("round", 2)), room(("give", 3)), END)
        pairs = [((0,), [("a", 0)]), ((0, 0), ()), ((0, 0, 0), ()), ((1,), ())]
        self.each_unkept(rows, rooms, pairs, 0, [room(("fork", S[0], 2, 3)), room(("fork", S[0], 1, 2)), room(("fork", S[0], 1, 1))])
        self.each_unkept(rows, rooms, pairs, 1, [room(("go", 2)), room(("fork", 1, 2, 2)), room(("round", 0)), room(("give", 3))])

    def test_a_slot_that_a_loop_moves_its_name_to(self):
        moved = replaced(self.ROOMS, 2, room(("go", 0), [("put", 2, ("+", S[1], 1))]))
        self.unkept(self.WHILE, moved, self.PAIRS, 2)
        # With a second set of rooms for it all is right again.
        fork, tells = ("<", S[2], S[0]), room(("give", 0), [("tell", S[2])])
        more = (room(("fork", fork, 5, 7)), room(("round", 6)), room(("go", 0), [("put", 1, ("+", S[2], 1))]), tells)
        rooms = replaced(moved, 2, room(("go", 4), moved[2][0])) + more
        other = [("a", 0), ("x", 2)]
        self.kept(self.WHILE, rooms, self.PAIRS + [((0, 0, 1), other), ((0, 0), other), ((0, 0, 0), other), ((1,), other)])

    def test_a_while_without_rows(self):
        rooms = (room(("fork", S[0], 1, 2)), room(("round", 0)), END)
        self.kept((("while", "a", ()),), rooms, [((0,), [("a", 0)]), ((0, 0), [("a", 0)]), ((1,), ())])

    def test_the_fall_of_a_round(self):
        rows = (("try", (("while", 1, ()),), "x", (("tell", "x"),)),)
        rooms = (room(("fork", 1, 1, 2)), room(("round", 0), fall=(1, 3)), END, room(("give", 0), [("tell", S[1])]))
        pairs = [((0,), ()), ((0, 0, 0, 0), ()), ((1,), ()), ((0, 1, 0), [("x", 1)])]
        self.each_unkept(rows, rooms, pairs, 1, [
            room(("round", 0)), room(("round", 0), fall=(1, 2)), room(("round", 0), fall=(2, 3)), room(("round", 0), fall=(None, 3)),
            room(("round", 0), fall=(1, 3), off=3),
        ])


class Faults(Judging):
    params = ("a",)

    def test_fail(self):
        self.each_unkept((("fail", ("+", "a", 1)),), (room(("fail", ("+", S[0], 1))), END), [((0,), [("a", 0)]), ((1,), ())], 0, [
            room(("fail", ("+", S[0], 2))), room(("fail", ("+", S[0], 1)), fall=(None, 1)), room(("fail", ("+", S[0], 1)), fall=(1, 1)),
            room(("fail", ("+", S[0], 1)), off="shut"), room(("fail", ("+", S[0], 1)), off=1), room(("give", ("+", S[0], 1))),
            room(("fail", ("+", S[0], 1)), [("tell", 1)]), room(("out", 0)),
        ])

    CATCH = (("try", (("fail", 7),), "x", (("tell", "x"), ("tell", "a"))),)

    def caught(self, fall, kept, told="kept", tell=S[1], other=S[0]):
        rooms = (room(("fail", 7), fall=fall), room(("give", 0), [("tell", tell), ("tell", other)]), END)
        getattr(self, told)(self.CATCH, rooms, [((0,), [("a", 0)]), ((0, 1, 0), kept), ((1,), ())])

    def test_catch(self):
        both = [("a", 0), ("x", 1)]
        self.caught((1, 1), both)
        self.caught((2, 1), [("a", 0), ("x", 2)], tell=S[2])
        for fall in (None, (1, 2), (2, 1), (None, 1), (0, 1), (3, 1)):
            self.caught(fall, both, "unkept")
        # In the slot of another key it lies alone.
        self.caught((0, 1), [("a", 0), ("x", 1)], "unkept")

    def test_a_catch_lies_alone(self):
        rows = (("try", (("fail", 7),), "x", (("tell", "x"),)),)
        rooms = (room(("fail", 7), fall=(0, 1)), room(("give", 0), [("tell", S[0])]))
        self.kept(rows, rooms, [((0,), [("a", 0)]), ((0, 1, 0), [("x", 0)])])
        self.unkept(rows, rooms, [((0,), [("a", 0)]), ((0, 1, 0), [("a", 0)])], 0)

    def test_a_name_that_a_catch_forgets_is_held_no_more(self):
        rows = (("set", "x", 1), ("try", (("fail", 7),), "x", (("tell", 3),)))
        rooms = lambda fall: (room(("fail", 7), [("put", 1, 1)], fall=fall), room(("give", 0), [("tell", 3)]))
        self.kept(rows, rooms((None, 1)), [((0,), ()), ((1, 1, 0), ())])
        self.kept(rows, rooms((4, 1)), [((0,), ()), ((1, 1, 0), ())])
        self.kept(rows, rooms((4, 1)), [((0,), ()), ((1, 1, 0), [("x", 4)])])
        self.unkept(rows, rooms((None, 1)), [((0,), ()), ((1, 1, 0), [("x", 1)])])
        self.unkept(rows, rooms((4, 1)), [((0,), ()), ((1, 1, 0), [("x", 1)])])

    def test_catch_of_no_name(self):
        rows = (("try", (("fail", 7),), None, (("tell", "a"),)),)
        rooms = (room(("fail", 7), fall=(None, 1)), room(("give", 0), [("tell", S[0])]))
        self.each_unkept(rows, rooms, [((0,), [("a", 0)]), ((0, 1, 0), [("a", 0)])], 0, [
            room(("fail", 7), fall=(1, 1)), room(("fail", 7), fall=(0, 1)), room(("fail", 7)),
        ])

    def test_the_catch_may_slide(self):
        rows = (("try", (("fail", 7),), "x", (("try", (("tell", 1),), None, ()),)), ("tell", 2))
        for place in ((0, 1, 0), (0, 1, 0, 0, 0)):
            self.kept(rows, (room(("fail", 7), fall=(None, 1)), room(("give", 0), [("tell", 1), ("tell", 2)])), [((0,), ()), (place, ())])
        rows = (("try", (("fail", 7),), "x", ()), ("tell", 2))
        for place in ((0, 1, 0), (1,), (0, 0, 1)):
            self.kept(rows, (room(("fail", 7), fall=(None, 1)), room(("give", 0), [("tell", 2)])), [((0,), ()), (place, ())])


class Dos(Judging):
    DO = (("do", (("tell", 1),), (("tell", 2),)), ("do", (), ()))
    MARKS = [("mark", "do", 0), ("tell", 1), ("mark", "done", 0), ("mark", "do", 1), ("mark", "done", 1)]

    def test_left_well(self):
        wrong = []
        for at, row in enumerate(self.MARKS):
            wrong.append(self.MARKS[:at] + self.MARKS[at + 1:])
            wrong.append(self.MARKS[:at] + [row] + self.MARKS[at:])
            if row[0] == "mark":
                for word in ("do", "done", "undo", "undone"):
                    wrong += [replaced(tuple(self.MARKS), at, ("mark", word, d)) for d in (0, 1, 2) if (word, d) != row[1:]]
        self.each_unkept(self.DO, (room(("give", 0), self.MARKS),), [((0,), ())], 0, [room(("give", 0), rows) for rows in wrong])

    def test_divided(self):
        rooms = [room(("go", at + 1), [row]) for at, row in enumerate(self.MARKS)] + [END]
        pairs = [(place, ()) for place in ((0,), (0, 0, 0), (0, 0, 1), (1,), (1, 0, 0), (2,))]
        self.kept(self.DO, rooms, pairs)
        for at in range(1, 6):
            for place in ((0,), (0, 0, 0), (0, 0, 1), (0, 1), (0, 1, 0), (0, 1, 1), (1,), (1, 0, 0), (1, 1), (1, 1, 0), (2,)):
                if place != pairs[at][0]:
                    self.unkept(self.DO, rooms, replaced(tuple(pairs), at, (place, ())), at - 1)

    UNDO = (("do", (("fail", 7),), (("tell", 2),)), ("tell", 9))
    ROOMS = (room(("fail", 7), [("mark", "do", 0)], fall=(3, 1)), room(("out", 3), [("mark", "undo", 0), ("tell", 2), ("mark", "undone", 0)]), END)
    PAIRS = (((0,), ()), ((0, 1), [("0", 3)]), ((2,), ()))

    def test_undone(self):
        self.each_unkept(self.UNDO, self.ROOMS, self.PAIRS, 0, [
            room(("fail", 7), [("mark", "do", 0)]), room(("fail", 7), [("mark", "do", 0)], fall=(None, 1)),
            room(("fail", 7), [("mark", "do", 0)], fall=(2, 1)), room(("fail", 7), [("mark", "do", 0)], fall=(3, 2)),
            room(("fail", 7), [("mark", "do", 0)], fall=(3, 1), off=1), room(("fail", 7), [("mark", "do", 1)], fall=(3, 1)),
        ])
        marks = list(self.ROOMS[1][0])
        self.each_unkept(self.UNDO, self.ROOMS, self.PAIRS, 1, [
            room(("out", 2), marks), room(("out", 3), marks[:2]), room(("out", 3), marks[1:]), room(("out", 3), marks + [("tell", 9)]),
            room(("out", 3), marks, fall=(None, 2)), room(("out", 3), marks, fall=(3, 2)), room(("out", 3), marks, off="shut"),
            room(("out", 3), marks, off=2), room(("fail", S[3]), marks), room(("give", 0), marks), room(("go", 2), marks),
            room(("out", 3), [("mark", "undo", 1)] + marks[1:]), room(("out", 3), marks[:2] + [("mark", "undone", 1)]),
            room(("out", 3), marks[:2] + [("mark", "done", 0)]),
        ])

    def test_an_undo_is_asked_for_a_slot_though_no_key_is_kept(self):
        rows = (("do", (("fail", 7),), (("fail", 8),)),)
        rooms = (room(("fail", 7), [("mark", "do", 0)], fall=(3, 1)), room(("fail", 8), [("mark", "undo", 0)], fall=(2, 2)), room(("out", 2), [("mark", "undone", 0)]))
        pairs = [((0,), ()), ((0, 1), ()), ((0, 1, 1), [("0", 2)])]
        self.each_unkept(rows, rooms, pairs, 0, [room(("fail", 7), [("mark", "do", 0)], fall=(None, 1))])

    def test_out_stands_just_behind_undone(self):
        split = (self.ROOMS[0], room(("go", 2), self.ROOMS[1][0][:2]), room(("out", 3), self.ROOMS[1][0][2:]))
        self.kept(self.UNDO, split, [self.PAIRS[0], self.PAIRS[1], ((0, 1, 1), [("0", 3)])])
        split = (self.ROOMS[0], room(("go", 2), self.ROOMS[1][0]), room(("out", 3)))
        self.unkept(self.UNDO, split, [self.PAIRS[0], self.PAIRS[1], ((0, 1, 1), [("0", 3)])], 1)
        split = (self.ROOMS[0], room(("out", 3), self.ROOMS[1][0]), room(("out", 3)))
        self.unkept(self.UNDO, split, [self.PAIRS[0], self.PAIRS[1], ((0, 1, 1), [("0", 3)])], 2)

    def test_what_out_reads_is_to_be_held(self):
        self.unkept(self.UNDO, self.ROOMS, replaced(self.PAIRS, 1, ((0, 1), ())), 1)
        self.unkept(self.UNDO, self.ROOMS, replaced(self.PAIRS, 1, ((0, 1), [("0", 2)])), 0)

    def test_a_number_lies_alone(self):
        rows = (("set", "x", 1), ("do", (("fail", 7),), (("set", "x", 2),)))
        rooms = lambda fall, slot: (
            room(("fail", 7), [("put", 1, 1), ("mark", "do", 0)], fall=(fall, 1)),
            room(("out", fall), [("mark", "undo", 0), ("put", slot, 2), ("mark", "undone", 0)]),
        )
        pairs = lambda *kept: [((0,), ()), ((1, 1), kept)]
        self.kept(rows, rooms(1, 2), pairs(("0", 1)))
        self.kept(rows, rooms(2, 1), pairs(("0", 2), ("x", 1)))
        self.unkept(rows, rooms(1, 2), pairs(("x", 1)), 0)
        # What the undoing puts there takes its place.
        self.unkept(rows, rooms(1, 1), pairs(("0", 1)), 1)

    def test_an_undoing_that_fails(self):
        rows = (("do", (("fail", 7),), (("fail", 8),)),)
        first = room(("fail", 7), [("mark", "do", 0)], fall=(3, 1))
        last = room(("out", 2), [("mark", "undone", 0)])
        pairs = [((0,), ()), ((0, 1), ()), ((0, 1, 1), [("0", 2)])]
        self.each_unkept(rows, (first, room(("fail", 8), [("mark", "undo", 0)], fall=(2, 2)), last), pairs, 1, [
            room(("fail", 8), [("mark", "undo", 0)]), room(("fail", 8), [("mark", "undo", 0)], fall=(None, 2)),
            room(("fail", 8), [("mark", "undo", 0)], fall=(3, 2)), room(("fail", 8), [("mark", "undo", 0)], fall=(2, 2), off="shut"),
        ])

    def test_the_fall_and_off_of_out(self):
        rows = (("do", (("try", (("do", (("fail", 7),), ()),), "x", ()), ("do", (("fail", 8),), ())), (("do", (("fail", 9),), ()),)),)
        rooms = (
            room(("fail", 7), [("mark", "do", 0), ("mark", "do", 1)], fall=(1, 1)),
            room(("out", 1), [("mark", "undo", 1), ("mark", "undone", 1)], fall=(2, 2), off=4),
            room(("fail", 8), [("mark", "do", 2)], fall=(3, 3)),
            room(("out", 3), [("mark", "undo", 2), ("mark", "undone", 2)], fall=(0, 4), off=4),
            room(("fail", 9), [("mark", "undo", 0), ("mark", "do", 3)], fall=(4, 5)),
            room(("out", 4), [("mark", "undo", 3), ("mark", "undone", 3)], fall=(5, 6), off="shut"),
            room(("out", 5), [("mark", "undone", 0)]),
        )
        pairs = [
            ((0,), ()), ((0, 0, 0, 0, 0, 1), [("1", 1)]), ((0, 0, 0, 1, 0), [("x", 2)]), ((0, 0, 1, 1), [("2", 3)]), ((0, 1), [("0", 0)]),
            ((0, 1, 0, 1), [("3", 4)]), ((0, 1, 1), [("0", 5)]),
        ]
        with_out = lambda r, fall, off: room(rooms[r][1], rooms[r][0], fall, off)
        self.each_unkept(rows, rooms, pairs, 1, [
            with_out(1, None, 4), with_out(1, (2, 2), None), with_out(1, (2, 2), "shut"), with_out(1, (2, 2), 3), with_out(1, (2, 3), 4),
            with_out(1, (1, 2), 4), with_out(1, (None, 2), 4),
        ])
        self.each_unkept(rows, rooms, pairs, 3, [
            with_out(3, None, 4), with_out(3, (0, 4), None), with_out(3, (1, 4), 4), with_out(3, (None, 4), 4), with_out(3, (0, 5), 4),
            with_out(3, (0, 4), 5), with_out(3, (0, 4), "shut"),
        ])
        self.each_unkept(rows, rooms, pairs, 5, [
            with_out(5, (5, 6), None), with_out(5, (5, 6), 6), with_out(5, None, "shut"), with_out(5, (4, 6), "shut"),
            with_out(5, (None, 6), "shut"),
        ])
        self.each_unkept(rows, rooms + (END,), pairs + [((1,), ())], 6, [with_out(6, None, "shut"), with_out(6, None, 7), with_out(6, (5, 7), None)])

    GIVES = (("do", (("do", (("try", (("give", "x"),), "y", ()),), ()),), ()),)

    def test_give_in_dos(self):
        marks = [("mark", "do", 0), ("mark", "do", 1), ("mark", "done", 1), ("mark", "done", 0)]
        pairs = [((0,), [("x", 4)])]
        self.each_unkept(self.GIVES, (room(("give", S[4]), marks),), pairs, 0, [
            room(("give", S[4]), marks[:3]), room(("give", S[4]), marks[:2]), room(("give", S[4]), marks[:2] + [marks[3], marks[2]]),
            room(("give", S[4]), marks + [marks[3]]), room(("give", S[3]), marks), room(("give", 0), marks), room(("fail", S[4]), marks),
            room(("give", S[4]), marks[:2] + [marks[3]]), room(("give", S[4]), marks, fall=(None, 0)), room(("give", S[4]), marks, off=0),
        ])
        # Divided ahead of the give it is right, amid its marks not.
        for count, place, told in ((1, (0, 0, 0), "kept"), (2, (0, 0, 0, 0, 0, 0, 0), "kept"), (3, (0, 0, 0, 0, 0, 0, 0), "unkept"), (4, (0, 0, 0, 0, 0, 0, 0), "unkept")):
            rooms = (room(("go", 1), marks[:count]), room(("give", S[4]), marks[count:]))
            getattr(self, told)(self.GIVES, rooms, pairs + [(place, [("x", 4)])])


class WantsCase(Judging):
    params = ("a",)
    WANT = ("want", 2, (("x", "ask", "sun", "a"), ("y", "call", "sub", (("+", "a", 1),)), (None, "ask", "moon", 5)))
    DOOR = ("want", 2, ((1, "ask", "sun", S[0]), (2, "call", "sub", (("+", S[0], 1),)), (None, "ask", "moon", 5)), 1)
    ROWS = (WANT, ("tell", "x"))
    TELLS = room(("give", 0), [("tell", S[1])])
    PAIRS = [((0,), [("a", 0), ("x", 1), ("y", 2)]), ((1,), [("x", 1)])]

    def branch(self, number, branch):
        return room(self.DOOR[:2] + (replaced(self.DOOR[2], number, branch),) + self.DOOR[3:])

    def test_each_part(self):
        self.each_unkept(self.ROWS, (room(self.DOOR), self.TELLS), self.PAIRS, 0, [
            room(("want", 1) + self.DOOR[2:]), room(("want", 3) + self.DOOR[2:]), room(self.DOOR[:3] + (0,)), room(self.DOOR[:2] + (self.DOOR[2][:2], 1)),
            room(self.DOOR[:2] + (self.DOOR[2] + self.DOOR[2][2:], 1)), room(self.DOOR[:2] + ((self.DOOR[2][1], self.DOOR[2][0], self.DOOR[2][2]), 1)),
            self.branch(0, (1, "ask", "moon", S[0])), self.branch(0, (1, "ask", "sun", S[1])), self.branch(0, (1, "ask", "sun", 0)),
            self.branch(0, (3, "ask", "sun", S[0])), self.branch(0, (None, "ask", "sun", S[0])), self.branch(0, (1, "call", "sub", (S[0],))),
            self.branch(1, (2, "call", "main", (("+", S[0], 1),))), self.branch(1, (2, "call", "sub", (("+", S[0], 2),))),
            self.branch(1, (2, "ask", "sub", ("+", S[0], 1))), self.branch(2, (3, "ask", "moon", 5)), self.branch(2, (0, "ask", "moon", 5)),
            self.branch(2, (None, "ask", "moon", 6)), room(self.DOOR, [("tell", 1)]), room(self.DOOR, fall=(None, 1)), room(self.DOOR, fall=(1, 1)),
            room(self.DOOR, off="shut"), room(self.DOOR, off=1), room(("give", 0)),
        ])

    def test_names_that_are_read_are_to_be_held(self):
        self.unkept(self.ROWS, (room(self.DOOR), self.TELLS), [((0,), [("x", 1), ("y", 2)]), ((1,), [("x", 1)])])

    def test_fewer_than_all_wanted(self):
        # A name may stay unset: it is held only where it lay in its slot already.
        for kept, told in (([("a", 0), ("x", 1)], "kept"), ([("a", 0)], "unkept"), ([("a", 0), ("x", 3)], "unkept"), ([("a", 0), ("y", 1)], "unkept")):
            getattr(self, told)(self.ROWS, (room(self.DOOR), self.TELLS), [((0,), kept), ((1,), [("x", 1)])])
        # What lay in such a slot is held no more, and neither is the name where it lay.
        door = self.branch(0, (3, "ask", "sun", S[0]))[1]
        rows = (self.WANT, ("tell", 4))
        tells = room(("give", 0), [("tell", 4)])
        for key, slot, told in (("x", 1, "unkept"), ("x", 3, "unkept"), ("y", 2, "kept"), ("a", 0, "kept")):
            getattr(self, told)(rows, (room(door), tells), [((0,), [("a", 0), ("x", 1), ("y", 2)]), ((1,), [(key, slot)])])
        door = self.branch(0, (0, "ask", "sun", S[0]))[1]
        self.unkept(rows, (room(door), tells), [((0,), [("a", 0), ("x", 1)]), ((1,), [("a", 0)])])
        self.kept(rows, (room(door), tells), [((0,), [("a", 0), ("x", 1)]), ((1,), ())])

    def test_none_for_a_name(self):
        door = self.branch(1, (None, "call", "sub", (("+", S[0], 1),)))[1]
        self.kept(self.ROWS, (room(door), self.TELLS), self.PAIRS)
        self.unkept(self.ROWS, (room(door), self.TELLS), [self.PAIRS[0], ((1,), [("x", 1), ("y", 2)])])

    def test_all_wanted(self):
        want = ("want", 2, (("x", "ask", "sun", "a"), ("y", "ask", "moon", "x")))
        rows = (want, ("tell", "x"), ("tell", "y"))
        rooms = lambda x, y: (
            room(("want", 2, ((x, "ask", "sun", S[0]), (y, "ask", "moon", S[3])), 1)),
            room(("give", 0), [("tell", S[x or 0]), ("tell", S[y or 0])]),
        )
        first = ((0,), [("a", 0), ("x", 3)])
        for x, y in ((1, 2), (0, 3), (3, 0), (2, 1), (5, 4)):
            self.kept(rows, rooms(x, y), [first, ((1,), [("x", x), ("y", y)])])
        self.unkept(rows, rooms(1, 2), [first, ((1,), [("x", 3), ("y", 2)])])
        self.unkept(rows, rooms(1, 2), [first, ((1,), [("x", 2), ("y", 1)])])
        self.unkept(rows, rooms(1, 1), [first, ((1,), [("x", 1), ("y", 2)])])
        # Of two branches with one slot the later one's name lies there alone.
        rows = (want, ("tell", "y"))
        one = (rooms(1, 1)[0], room(("give", 0), [("tell", S[1])]))
        self.kept(rows, one, [first, ((1,), [("y", 1)])])
        self.unkept(rows, one, [first, ((1,), [("x", 1)])])
        self.unkept((want, ("tell", "a")), (rooms(0, 1)[0], room(("give", 0), [("tell", S[0])])), [first, ((1,), [("a", 0)])])

    def test_one_name_in_two_branches(self):
        want = ("want", 2, (("x", "ask", "sun", 1), ("x", "ask", "moon", 2)))
        rows = (want, ("tell", "x"))
        rooms = lambda first, second: (room(("want", 2, ((first, "ask", "sun", 1), (second, "ask", "moon", 2)), 1)), room(("give", 0), [("tell", S[2])]))
        for first, second, told in ((1, 2, "kept"), (2, 2, "kept"), (None, 2, "kept"), (2, 1, "unkept"), (2, None, "unkept")):
            getattr(self, told)(rows, rooms(first, second), [((0,), ()), ((1,), [("x", 2)])])

    def test_fall(self):
        rows = (("try", (("want", 1, (("x", "ask", "sun", 1),)),), "y", (("tell", "y"),)), ("tell", "x"))
        rooms = (
            room(("want", 1, ((1, "ask", "sun", 1),), 1), fall=(2, 2)), room(("give", 0), [("tell", S[1])]),
            room(("give", 0), [("tell", S[2]), ("tell", S[1])]),
        )
        pairs = [((0,), [("x", 1)]), ((1,), [("x", 1)]), ((0, 1, 0), [("x", 1), ("y", 2)])]
        door = rooms[0][1]
        self.each_unkept(rows, rooms, pairs, 0, [
            room(door), room(door, fall=(1, 2)), room(door, fall=(None, 2)), room(door, fall=(2, 1)), room(door, fall=(3, 2)),
            room(door, fall=(2, 2), off=2),
        ])
        # Missed, a want sets no names: what is held there is what was held ahead.
        self.unkept(rows, rooms, [((0,), ()), pairs[1], pairs[2]])
        self.kept((rows[0],), (rooms[0], END, room(("give", 0), [("tell", S[2])])), [((0,), ()), ((1,), ()), ((0, 1, 0), [("y", 2)])])

    def off_case(self, off, kept=(("0", 4),), told="kept", fall=4):
        rows = (("set", "x", 3), ("do", (("want", 1, ((None, "ask", "sun", 1),)),), (("tell", "x"),)))
        rooms = (
            room(("want", 1, ((None, "ask", "sun", 1),), 1), [("put", 1, 3), ("mark", "do", 0)], fall=(fall, 2), off=off),
            room(("give", 0), [("mark", "done", 0)]), room(("out", fall), [("mark", "undo", 0), ("tell", S[1]), ("mark", "undone", 0)]),
            room(("out", 5), [("mark", "undo", 0), ("tell", S[1]), ("mark", "undone", 0)]),
        )
        pairs = [((0,), ()), ((1, 0, 1), ()), ((1, 1), [("0", fall), ("x", 1)]), ((1, 1), list(kept))]
        getattr(self, told)(rows, rooms, pairs)

    def test_off(self):
        both = (("0", 5), ("x", 1))
        for off in (2, 3):
            self.off_case(off, both)
        for off in (None, "shut", 1):
            self.off_case(off, both, "unkept")

    def test_by_an_off_the_number_is_held_in_whatever_slot(self):
        self.off_case(3, (("0", 5), ("x", 1)))
        # The others are held only as the rows left them.
        rows = (("set", "x", 3), ("do", (("want", 1, ((None, "ask", "sun", 1),)),), (("tell", "x"),)))
        door = ("want", 1, ((None, "ask", "sun", 1),), 1)
        for slot, told in ((1, "kept"), (2, "unkept")):
            rooms = (
                room(door, [("put", 1, 3), ("mark", "do", 0)], fall=(4, 2), off=3), room(("give", 0), [("mark", "done", 0)]),
                room(("out", 4), [("mark", "undo", 0), ("tell", S[1]), ("mark", "undone", 0)]),
                room(("out", 0), [("mark", "undo", 0), ("tell", S[slot]), ("mark", "undone", 0)]),
            )
            pairs = [((0,), ()), ((1, 0, 1), ()), ((1, 1), [("0", 4), ("x", 1)]), ((1, 1), [("0", 0), ("x", slot)])]
            getattr(self, told)(rows, rooms, pairs)

    def test_off_where_no_number_of_another_do_is_free(self):
        rows = (("do", (("do", (("want", 1, ((None, "ask", "sun", 1),)),), ()),), ()),)
        want = room(("want", 1, ((None, "ask", "sun", 1),), 1), [("mark", "do", 0), ("mark", "do", 1)], fall=(1, 2), off=2)
        rooms = (
            want, room(("give", 0), [("mark", "done", 1), ("mark", "done", 0)]),
            room(("out", 1), [("mark", "undo", 1), ("mark", "undone", 1)], fall=(0, 3), off=3), room(("out", 0), [("mark", "undo", 0), ("mark", "undone", 0)]),
        )
        pairs = [((0,), ()), ((0, 0, 0, 0, 1), ()), ((0, 0, 0, 1), [("1", 1)]), ((0, 1), [("0", 0)])]
        self.each_unkept(rows, rooms, pairs, 0, [room(want[1], want[0], (1, 2), 3), room(want[1], want[0], (1, 3), 2), room(want[1], want[0], (0, 2), 2)])
        # By the off to the inner undoing only the inner number is free.
        self.unkept(rows, rooms, replaced(tuple(pairs), 2, ((0, 0, 0, 1), [("0", 3), ("1", 1)])))

    def test_shut(self):
        rows = (("do", (("fail", 1),), (("want", 1, ((None, "ask", "sun", 1),)),)),)
        first = room(("fail", 1), [("mark", "do", 0)], fall=(1, 1))
        want = room(("want", 1, ((None, "ask", "sun", 1),), 2), [("mark", "undo", 0)], fall=(1, 2), off="shut")
        last = room(("out", 1), [("mark", "undone", 0)])
        pairs = [((0,), ()), ((0, 1), [("0", 1)]), ((0, 1, 1), [("0", 1)])]
        self.each_unkept(rows, (first, want, last), pairs, 1, [
            room(want[1], want[0], (1, 2), None), room(want[1], want[0], (1, 2), 2), room(want[1], want[0], None, "shut"),
            room(want[1], want[0], (2, 2), "shut"), room(want[1], want[0], (None, 2), "shut"),
        ])


class FirstRooms(unittest.TestCase):
    PROGRAM = (("main", ("a", "b"), (("try", (("tell", "x"), ("tell", "b")), "y", ()), ("tell", "a"))),)

    def told(self, kept, place=(0,), name="main", many=2, tell=S[2], program=None, slots=6):
        program = program or self.PROGRAM
        machines = ((name, many, slots, (room(("give", 0), [("tell", tell), ("tell", S[1]), ("tell", S[0])]),)),)
        paper = (((place, tuple(sorted(kept))),),)
        self.assertTrue(is_machines(machines))
        told = judged(program, machines, paper)
        self.assertEqual(OracleJudge(program, machines, paper).unkept[:1], [] if told is None else [told])
        if told is None:
            runs_as_meant(self, program, machines, "main", (7, 8), ())
        return told

    def test_right_ones(self):
        params = [("a", 0), ("b", 1)]
        self.assertIsNone(self.told(params + [("x", 2)]))
        self.assertIsNone(self.told(params + [("x", 2), ("y", 3)]))
        self.assertIsNone(self.told(params + [("x", 5), ("y", 2)], tell=S[5]))
        for place in ((0,), (0, 0, 0)):
            self.assertIsNone(self.told(params + [("x", 2)], place))

    def test_name_and_count(self):
        kept = [("a", 0), ("b", 1), ("x", 2)]
        for name in ("other", "a", "mains"):
            self.assertEqual(self.told(kept, name=name), (0, 0))
        for many in (0, 1, 3):
            self.assertEqual(self.told(kept, many=many), (0, 0))

    def test_place(self):
        kept = [("a", 0), ("b", 1), ("x", 2)]
        for place in ((0, 0, 1), (0, 0, 2), (1,), (2,), (0, 1, 0), (3,), (), (0, 0), (0, 0, 0, 0, 0)):
            self.assertEqual(self.told(kept, place), (0, 0))

    def test_a_first_room_elsewhere_is_not_kept_though_its_rows_fit(self):
        program = (("main", (), (("tell", 1), ("tell", 2))),)
        machines = (("main", 0, 0, (room(("give", 0), [("tell", 2)]),)),)
        self.assertEqual(judged(program, machines, ((((1,), ()),),)), (0, 0))
        self.assertEqual(judged(program, (("main", 0, 0, (END,)),), ((((2,), ()),),)), (0, 0))

    def test_pairs(self):
        program = (("main", ("a", "b"), (("tell", 1), ("do", (), ()))),)
        rooms = (room(("give", 0), [("tell", 1), ("mark", "do", 0), ("mark", "done", 0)]),)
        for kept, told in (
            ((), None), ((("a", 0),), None), ((("b", 1),), None), ((("a", 0), ("b", 1)), None), ((("a", 1),), (0, 0)), ((("b", 0),), (0, 0)),
            ((("a", 2),), (0, 0)), ((("b", 2),), (0, 0)), ((("a", 1), ("b", 0)), (0, 0)), ((("0", 2),), (0, 0)), ((("0", 0),), (0, 0)),
            ((("z", 2),), (0, 0)),
        ):
            machines, paper = (("main", 2, 4, rooms),), ((((0,), kept),),)
            self.assertEqual(judged(program, machines, paper), told, kept)
            self.assertEqual(OracleJudge(program, machines, paper).unkept, [] if told is None else [told])

    def test_other_names_lie_behind_the_params(self):
        program = (("main", ("a", "b"), (("tell", 1), ("tell", "x"), ("tell", "y"))),)
        for x, y, told in ((2, 3, None), (3, 2, None), (0, 2, (0, 0)), (1, 2, (0, 0)), (2, 1, (0, 0))):
            rooms = (room(("give", 0), [("tell", 1), ("tell", S[x]), ("tell", S[y])]),)
            self.assertEqual(judged(program, (("main", 2, 4, rooms),), ((((0,), (("x", x), ("y", y))),),)), told)

    def test_other_rooms_may_hold_otherwise(self):
        program = (("main", ("a",), (("set", "x", "a"), ("tell", "x"))),)
        machines = (("main", 1, 2, (room(("go", 1), [("put", 0, S[0])]), room(("give", 0), [("tell", S[0])]))),)
        self.assertIsNone(judged(program, machines, ((((0,), (("a", 0),)), ((1,), (("x", 0),))),)))

    def test_it_may_be_led_to_again(self):
        program = (("main", ("a",), (("while", "a", (("set", "a", 0),)),)),)
        rooms = (room(("fork", S[0], 1, 3)), room(("round", 2)), room(("go", 0), [("put", 0, 0)]), END)
        held = (("a", 0),)
        self.assertIsNone(judged(program, (("main", 1, 1, rooms),), ((((0,), held), ((0, 0), held), ((0, 0, 0), ()), ((1,), ())),)))


class WhichRoom(unittest.TestCase):
    PROGRAM = tuple((name, (), (("tell", 1), ("tell", 2), ("tell", 3))) for name in ("a", "b", "c"))
    ROOMS = (room(("go", 1), [("tell", 1)]), room(("go", 2), [("tell", 2)]), room(("give", 0), [("tell", 3)]))
    PAIRS = (((0,), ()), ((1,), ()), ((2,), ()))

    def test_the_first_of_the_first_machine(self):
        wrong = room(("give", 0), [("tell", 9)])
        for seen in range(1, 2 ** 9):
            machines, first = [], None
            for m in range(3):
                rooms = self.ROOMS
                for r in range(3):
                    if seen >> (m * 3 + r) & 1:
                        rooms = replaced(rooms, r, wrong)
                        first = first or (m, r)
                machines.append(("abc"[m], 0, 0, rooms))
            self.assertEqual(judged(self.PROGRAM, tuple(machines), (self.PAIRS,) * 3), first)

    def test_rooms_to_which_nothing_leads_are_judged_too(self):
        program = self.PROGRAM[:1]
        told = lambda spare, pair: judged(program, (("a", 0, 2, self.ROOMS + (spare,)),), (self.PAIRS + (pair,),))
        self.assertIsNone(told(END, ((3,), ())))
        self.assertIsNone(told(self.ROOMS[2], ((2,), ())))
        self.assertEqual(told(END, ((2,), ())), (0, 3))
        for place in ((4,), (), (0, 0), (0, 0, 0), (9,), (3, 0), (-1,)):
            self.assertEqual(told(END, (place, ())), (0, 3))
        for key in ("x", "0", "23", "tell", "A", ""):
            self.assertEqual(told(END, ((3,), ((key, 0),))), (0, 3))

    def test_a_lead_to_a_place_or_a_key_that_is_none(self):
        program = self.PROGRAM[:1]
        machines = (("a", 0, 2, self.ROOMS),)
        for place in ((3,), (4,), (1, 0), (), (0,), (2,), (1, 0, 0)):
            self.assertEqual(judged(program, machines, (replaced(self.PAIRS, 1, (place, ())),)), (0, 0), place)
        for key in ("x", "0"):
            self.assertEqual(judged(program, machines, (replaced(self.PAIRS, 1, ((1,), ((key, 0),))),)), (0, 0))

    def test_keys_are_those_of_the_own_errand(self):
        program = (("a", (), (("do", (), ()), ("tell", "x"))), ("b", (), (("tell", 1),)))
        first = ("a", 0, 1, (room(("give", 0), [("mark", "do", 0), ("mark", "done", 0), ("tell", S[0])]),))
        second = ("b", 0, 1, (room(("go", 1), [("tell", 1)]), END, END))
        pairs = (((0,), (("x", 0),)),)
        self.assertIsNone(judged(program, (first, second), (pairs, (((0,), ()), ((1,), ()), ((1,), ())))))
        for key in ("x", "0"):
            self.assertEqual(judged(program, (first, second), (pairs, (((0,), ()), ((1,), ()), ((1,), ((key, 0),))))), (1, 2))


class ByDice(unittest.TestCase):
    def test_one_thing_changed(self):
        """As another way judges it, and what is let by runs as meant."""
        seen = {True: 0, False: 0}
        for seed in range(160):
            dice = random.Random(seed)
            program = ProgramDice(dice, lively=seed % 2 == 0).program()
            for machines, paper in (made(program), other_making(dice, program)):
                self.assertEqual((judged(program, machines, paper), OracleJudge(program, machines, paper).unkept), (None, []))
                changes = Changes(dice, program, machines, paper)
                for _ in range(12):
                    changed = changes.changed()
                    told = judged(program, *changed)
                    self.assertEqual(OracleJudge(program, *changed).unkept[:1], [] if told is None else [told], seed)
                    seen[told is None] += 1
                    if told is None:
                        some_run(self, dice, program, changed[0])
        self.assertGreater(seen[True], 100)
        self.assertGreater(seen[False], 1000)


if __name__ == "__main__":
    unittest.main()
