import random
import unittest

from errandroom.joining import joined
from errandroom.machines import is_machines
from errandroom.making import made
from errandroom.pruning import pruned
from makings import machine, other_making, replaced, room
from passes import END, S, Case, check_by_dice, joined_by_steps, led
from samples import ProgramDice
from test_judging import some_run

ASK = ((None, "ask", "sun", 1),)
T = [("tell", n) for n in range(9)]


class Joined(unittest.TestCase):
    def case(self, *rows, params=()):
        return Case(self, joined, rows, params)

    def test_one_go_alone(self):
        held = [("a", 0)]
        self.case(T[1], ("tell", "a"), params=("a",)).told(
            (room(("go", 1), [T[1]]), room(("give", 0), [("tell", S[0])])), [((0,), held), ((1,), held)],
            (room(("give", 0), [T[1], ("tell", S[0])]),), [((0,), held)],
        )

    def test_nothing_to_join(self):
        self.case().same((END,), [((0,), ())])
        self.case(T[1]).same((room(("give", 0), [T[1]]),), [((0,), ())])

    def test_chains_of_gos(self):
        rows = [T[n] for n in range(5)]
        # The order in which the rooms of a chain stand is all the same.
        for order in ([0, 1, 2, 3, 4, 5], [0, 5, 4, 3, 2, 1], [0, 3, 1, 5, 2, 4]):
            rooms, pairs = [None] * 6, [None] * 6
            for n in range(6):
                rooms[order[n]] = END if n == 5 else room(("go", order[n + 1]), [T[n]])
                pairs[order[n]] = ((n,), ())
            self.case(*rows).told(rooms, pairs, (room(("give", 0), rows),), [((0,), ())])

    def test_door_fall_and_off_come_along(self):
        rows = (("do", (T[1], ("want", 1, ASK)), ()),)
        marks = [("mark", "undo", 0), ("mark", "undone", 0)]
        rooms = (
            room(("go", 1), [("mark", "do", 0), T[1]]), room(("want", 1, ASK, 2), fall=(1, 3), off=4), room(("give", 0), [("mark", "done", 0)]),
            room(("out", 1), marks), room(("out", 2), marks),
        )
        pairs = [((0,), ()), ((0, 0, 1), ()), ((0, 0, 2), ()), ((0, 1), [("0", 1)]), ((0, 1), [("0", 2)])]
        self.case(*rows).told(rooms, pairs, (
            room(("want", 1, ASK, 1), [("mark", "do", 0), T[1]], fall=(1, 2), off=3), rooms[2], rooms[3], rooms[4],
        ), pairs[:1] + pairs[2:])

    def test_two_gos(self):
        rows = (("if", 1, (T[1],), (T[2],)), T[3])
        rooms = (room(("fork", 1, 1, 2)), room(("go", 3), [T[1]]), room(("go", 3), [T[2]]), room(("give", 0), [T[3]]))
        self.case(*rows).same(rooms, [((0,), ()), ((0, 0, 0), ()), ((0, 1, 0), ()), ((1,), ())])

    def test_a_go_of_a_room_to_which_nothing_leads_counts(self):
        rooms = (room(("go", 1), [T[1]]), room(("give", 0), [T[2]]), room(("go", 1), [T[1]]))
        pairs = [((0,), ()), ((1,), ()), ((0,), ())]
        self.case(T[1], T[2]).same(rooms, pairs)
        apart = (room(("give", 0), [T[1], T[2]]), room(("give", 0), [T[2]]), room(("go", 1), [T[1]]))
        self.case(T[1], T[2]).told(apart, pairs, (room(("give", 0), [T[1], T[2]]),) * 2, [((0,), ())] * 2)

    def test_a_go_and_a_fork(self):
        rows = (("if", 1, (T[1],), ()), T[3])
        rooms = (room(("fork", 1, 1, 2)), room(("go", 2), [T[1]]), room(("give", 0), [T[3]]))
        self.case(*rows).same(rooms, [((0,), ()), ((0, 0, 0), ()), ((1,), ())])

    def test_forks_alone(self):
        rows = (("if", 1, (), ()), T[3])
        self.case(*rows).same((room(("fork", 1, 1, 1)), room(("give", 0), [T[3]])), [((0,), ()), ((1,), ())])
        self.case(*rows).same((room(("fork", 1, 1, 2)),) + (room(("give", 0), [T[3]]),) * 2, [((0,), ())] + [((1,), ())] * 2)

    def test_a_go_and_a_fall(self):
        rows = (("try", (("if", 1, (("fail", 1),), (T[1],)),), None, ()), T[2])
        rooms = (room(("fork", 1, 1, 2)), room(("fail", 1), fall=(None, 3)), room(("go", 3), [T[1]]), room(("give", 0), [T[2]]))
        at = (0, 0, 0)
        self.case(*rows).same(rooms, [((0,), ()), (at + (0, 0), ()), (at + (1, 0), ()), ((1,), ())])

    def test_a_go_and_a_want(self):
        rows = (("if", 1, (("want", 1, ASK),), (T[1],)), T[2])
        rooms = (room(("fork", 1, 1, 2)), room(("want", 1, ASK, 3)), room(("go", 3), [T[1]]), room(("give", 0), [T[2]]))
        self.case(*rows).same(rooms, [((0,), ()), ((0, 0, 0), ()), ((0, 1, 0), ()), ((1,), ())])

    def test_a_go_and_a_round(self):
        rows = (("while", 1, (("while", 1, (T[1],)),)),)
        rooms = (room(("fork", 1, 1, 5)), room(("round", 2)), room(("fork", 1, 3, 0)), room(("round", 4)), room(("go", 2), [T[1]]), END)
        at = (0, 0, 0)
        self.case(*rows).same(rooms, [((0,), ()), ((0, 0), ()), (at, ()), (at + (0,), ()), (at + (0, 0), ()), ((1,), ())])

    def test_offs_and_falls_alone(self):
        rows = (("do", (("want", 1, ASK),), ()),)
        marks = [("mark", "undo", 0), ("mark", "undone", 0)]
        rooms = (
            room(("want", 1, ASK, 1), [("mark", "do", 0)], fall=(1, 2), off=3), room(("give", 0), [("mark", "done", 0)]),
            room(("out", 1), marks), room(("out", 2), marks),
        )
        self.case(*rows).same(rooms, [((0,), ()), ((0, 0, 1), ()), ((0, 1), [("0", 1)]), ((0, 1), [("0", 2)])])

    def test_a_go_and_an_off(self):
        # Such machines are of no program, since nothing but falls and offs leads to a beginning.
        rooms = (room(("fork", 1, 1, 2)), room(("go", 3), [T[1]]), room(("want", 1, ASK, 4), off=3), room(("give", 1)), END)
        pairs = tuple(((0,), ()) for _ in rooms)
        for kept in (rooms, replaced(rooms, 2, room(("want", 1, ASK, 4), fall=(None, 3))), replaced(rooms, 2, room(("fail", 1), fall=(1, 3)))):
            value = (machine(*kept),)
            self.assertTrue(is_machines(value))
            self.assertEqual(joined((("main", (), ()),), value, (pairs,)), (value, (pairs,)))

    def test_room_0(self):
        rows = (("while", 1, (T[1],)),)
        rooms = (room(("fork", 1, 1, 3)), room(("round", 2)), room(("go", 0), [T[1]]), END)
        # A go alone leads to room 0, but it stays.
        self.case(*rows).same(rooms, [((0,), ()), ((0, 0), ()), ((0, 0, 0), ()), ((1,), ())])

    def test_a_loop_that_one_comes_to_by_a_go(self):
        rows = (T[0], ("while", 1, (T[1],)))
        rooms = (room(("go", 1), [T[0]]), room(("fork", 1, 2, 4)), room(("round", 3)), room(("go", 1), [T[1]]), END)
        self.case(*rows).same(rooms, [((0,), ()), ((1,), ()), ((1, 0), ()), ((1, 0, 0), ()), ((2,), ())])

    def test_a_room_that_leads_to_itself_by_a_round(self):
        rooms = (room(("go", 1), [T[0]]), room(("round", 1), [T[1]]))
        value, pairs = (machine(*rooms),), (((0,), ()), ((1,), ()))
        self.assertTrue(is_machines(value))
        self.assertEqual(joined((("main", (), ()),), value, (pairs,)), (value, (pairs,)))
        # A round that comes back to the go's own room leads by that room's number still.
        rooms = (room(("go", 1), [T[0]]), room(("go", 2), [T[1]]), room(("round", 0), [T[2]]))
        told = joined((("main", (), ()),), (machine(*rooms),), (pairs + (((2,), ()),),))
        self.assertEqual(told, ((machine(room(("round", 0), T[:3])),), (pairs[:1],)))

    def test_sixty_rows(self):
        program = (("main", (), ()),)
        for first, second, third, told in (
            (40, 20, 0, (60,)), (40, 21, 0, (40, 21)), (20, 20, 20, (60,)), (59, 1, 0, (60,)), (60, 1, 0, (60, 1)), (60, 0, 0, (60,)), (30, 30, 1, (60, 1)),
        ):
            rooms = (room(("go", 1), T[1:2] * first), room(("go", 2), T[2:3] * second), room(("give", 0), T[3:4] * third))
            value = (machine(*rooms),)
            self.assertTrue(is_machines(value))
            machines, paper = joined(program, value, ((((0,), ()), ((1,), ()), ((2,), ())),))
            self.assertTrue(is_machines(machines))
            self.assertEqual(tuple(len(one[0]) for one in machines[0][3]), told)
            self.assertEqual([row for one in machines[0][3] for row in one[0]], [row for one in rooms for row in one[0]])
            self.assertEqual(len(paper[0]), len(told))
            self.assertEqual(joined(program, machines, paper), (machines, paper))

    def test_longest_chain_of_a_program(self):
        rows = (("do", (("do", (), ()), ("do", (), ())), ()),) * 8
        program = (("main", (), rows),)
        machines, paper = pruned(program, *made(program))
        told = led(self, joined, program, machines, paper)
        self.assertEqual([len(one[0]) for one in told[0][0][3]], [48])

    def test_each_machine(self):
        program = tuple((name, (), (T[1],)) for name in ("a", "b"))
        one = (room(("go", 1), [T[1]]), END)
        pairs = (((0,), ()), ((1,), ()))
        told = led(self, joined, program, (("a", 0, 3, one), ("b", 0, 0, one)), (pairs, pairs))
        new = (room(("give", 0), [T[1]]),)
        self.assertEqual(told, ((("a", 0, 3, new), ("b", 0, 0, new)), (pairs[:1], pairs[:1])))

    def test_by_dice(self):
        fewer = 0
        for seed in range(120):
            dice = random.Random(seed)
            program = ProgramDice(dice, lively=seed % 2 == 0).program()
            for machines, paper in (pruned(program, *made(program)), made(program), other_making(dice, program)):
                told = check_by_dice(self, joined, joined_by_steps, dice, program, machines, paper)
                self.assertEqual([one[2] for one in told[0]], [one[2] for one in machines])
                fewer += told != (machines, paper)
                some_run(self, dice, program, told[0], 8)
        self.assertGreater(fewer, 100)


if __name__ == "__main__":
    unittest.main()
