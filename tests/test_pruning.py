import random
import unittest

from errandroom.making import made
from errandroom.pruning import pruned
from makings import other_making, room
from passes import END, S, Case, all_leads, check_by_dice, led, led_anew, pruned_by_steps
from samples import ProgramDice
from test_judging import some_run

ASK = ((None, "ask", "sun", 1),)


class Pruned(unittest.TestCase):
    def case(self, *rows, params=()):
        return Case(self, pruned, rows, params)

    def test_nothing_to_leave_out(self):
        self.case().same((END,), [((0,), ())])
        self.case(("tell", 1)).same((room(("go", 1), [("tell", 1)]), END), [((0,), ()), ((1,), ())])

    def test_order_numbers_and_pairs(self):
        tell = [room(("go", r), [("tell", n)]) for n, r in ((1, 4), (2, 2))]
        held = [("a", 0)]
        self.case(("tell", 1), ("tell", 2), ("tell", "a"), params=("a",)).told(
            (tell[0], END, room(("give", 0), [("tell", S[0])]), room(("go", 2), [("tell", 2)]), tell[1], room(("go", 1), [("tell", S[0])])),
            [((0,), held), ((3,), ()), ((2,), held), ((1,), held), ((1,), held), ((2,), held)],
            (room(("go", 2), [("tell", 1)]), room(("give", 0), [("tell", S[0])]), room(("go", 1), [("tell", 2)])),
            [((0,), held), ((2,), held), ((1,), held)],
        )

    def test_rooms_that_lead_to_one_another_only(self):
        rows = (("tell", 1), ("while", 1, ()))
        loop = lambda fork, turn, end: (room(("fork", 1, turn, end)), room(("round", fork)), END)
        pairs = [((1,), ()), ((1, 0), ()), ((2,), ())]
        self.case(*rows).told(
            (room(("go", 4), [("tell", 1)]),) + loop(1, 2, 3) + loop(4, 5, 6), [((0,), ())] + pairs * 2,
            (room(("go", 1), [("tell", 1)]),) + loop(1, 2, 3), [((0,), ())] + pairs,
        )

    def test_rooms_to_which_each_kind_of_lead_goes(self):
        rows = (("do", (("while", 1, (("want", 1, ASK), ("if", 1, (("fail", 1),), ()))),), (("tell", 2),)),)
        rooms = (
            room(("go", 2), [("mark", "do", 0)]), END, room(("fork", 1, 3, 4)), room(("round", 5), fall=(1, 6)),
            room(("give", 0), [("mark", "done", 0)]), room(("want", 1, ASK, 7), fall=(1, 6), off=9), room(("go", 8), [("mark", "undo", 0)]),
            room(("fork", 1, 10, 2)), room(("out", 1), [("tell", 2), ("mark", "undone", 0)]),
            room(("out", 2), [("mark", "undo", 0), ("tell", 2), ("mark", "undone", 0)]), room(("fail", 1), fall=(1, 6)),
        )
        at = (0, 0, 0)
        undoing = [("0", 1)]
        pairs = [
            ((0,), ()), ((1,), ()), (at, ()), (at + (0,), ()), ((0, 0, 1), ()), (at + (0, 0), ()), ((0, 1), undoing), (at + (0, 1), ()),
            ((0, 1, 0), undoing), ((0, 1), [("0", 2)]), (at + (0, 1, 0, 0), ()),
        ]
        self.assertEqual({word for one in rooms for word, _ in all_leads(one)}, {"go", "fork", "round", "fall", "want", "off"})
        down = lambda r: r if r < 1 else r - 1
        self.case(*rows).told(
            rooms, pairs, tuple(led_anew(one, down) for one in rooms[:1] + rooms[2:]), pairs[:1] + pairs[2:],
        )

    def test_to_which_only_a_fall_or_an_off_leads(self):
        rows = (("do", (("want", 1, ASK),), ()),)
        marks = [("mark", "undo", 0), ("mark", "undone", 0)]
        rooms = (
            room(("want", 1, ASK, 1), [("mark", "do", 0)], fall=(1, 2), off=3), room(("give", 0), [("mark", "done", 0)]),
            room(("out", 1), marks), room(("out", 2), marks),
        )
        pairs = [((0,), ()), ((0, 0, 1), ()), ((0, 1), [("0", 1)]), ((0, 1), [("0", 2)])]
        self.case(*rows).same(rooms, pairs)

    def test_slots_stay_as_they_were(self):
        told = led(self, pruned, (("main", (), ()),), (("main", 0, 32, (END, END)),), ((((0,), ()), ((0,), ())),))
        self.assertEqual(told, ((("main", 0, 32, (END,)),), ((((0,), ()),),)))

    def test_each_machine(self):
        program = tuple((name, (), ()) for name in ("a", "b", "c"))
        machines = (("a", 0, 0, (END,)), ("b", 0, 1, (END, END, END)), ("c", 0, 2, (END, END)))
        pairs = ((0,), ())
        told = led(self, pruned, program, machines, ((pairs,), (pairs,) * 3, (pairs,) * 2))
        self.assertEqual(told, ((("a", 0, 0, (END,)), ("b", 0, 1, (END,)), ("c", 0, 2, (END,))), ((pairs,),) * 3))

    def test_by_dice(self):
        fewer = 0
        for seed in range(120):
            dice = random.Random(seed)
            program = ProgramDice(dice, lively=seed % 2 == 0).program()
            for machines, paper in (made(program), other_making(dice, program)):
                told = check_by_dice(self, pruned, pruned_by_steps, dice, program, machines, paper)
                self.assertEqual([machine[2] for machine in told[0]], [machine[2] for machine in machines])
                fewer += told != (machines, paper)
                some_run(self, dice, program, told[0], 8)
        self.assertGreater(fewer, 50)


if __name__ == "__main__":
    unittest.main()
