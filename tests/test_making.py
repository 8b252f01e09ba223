import copy
import random
import unittest

from errandroom.judging import judged
from errandroom.machines import is_machines
from errandroom.making import made
from errandroom.programs import is_program, names_of, rows_of
from makings import other_making
from room_oracle import OracleJudge
from samples import ASK, OFF, WHOLE, ProgramDice, bad, good, plain, program
from test_judging import runs_as_meant, some_run

T = ("tell", 1)


def want(least, *branches):
    return ("want", least, tuple(branches))


def ask(x=None, n=1):
    return (x, "ask", "sun", n)


def do(first, undoing):
    return ("do", tuple(first), tuple(undoing))


SLOW = ("slow", (), (do((want(1, ask()),), (want(1, ask("x")), ("tell", "x"))),))
SUB = ("sub", ("p", "q"), (("give", ("+", "p", "q")),))

# Programs of all kinds of rows, in and out of one another.
PROGRAMS = (
    program(),
    program(T),
    program(("give", 3)),
    program(("fail", 3)),
    program(("set", "x", 2), ("set", "y", ("+", "x", 1)), ("tell", "y"), ("give", ("*", "x", "y"))),
    program(("try", (), None, ()), ("try", (("fail", 4),), "x", (("tell", "x"),)), ("try", (("try", (("fail", 5),), None, (T,)),), "y", ())),
    program(("if", "x", (T,), ()), ("if", 1, (), (T,)), ("if", 1, (("give", 1),), (("fail", 1),))),
    program(("while", ("<", "x", 3), (("set", "x", ("+", "x", 1)), ("tell", "x"))), ("while", 0, ())),
    program(("try", (("while", 1, (("set", "x", ("+", "x", 1)),)),), "y", (("tell", "x"), ("tell", "y")))),
    program(do((), ()), do((T,), (T,)), ("try", (do((("fail", 6),), (T, ("fail", 7))),), "x", (("tell", "x"),))),
    program(do((("try", (do((("give", 9),), ()),), None, ()),), ())),
    program(do((do((want(1, ask("x")),), (want(1, ask("y")), ("tell", "y"))), ("fail", 3)), (do((want(1, ask()),), (T,)), want(1, ask())))),
    program(want(1, ask("x"), ask("y")), want(2, ask("x", "x"), ask("y", "y")), want(2, ask("x"), ask("x"), ask()), ("give", ("-", "x", "y"))),
    program(*[want(1, ask("x"))] * 6),
    program(("try", (want(1, ask("x"), (None, "call", "slow", ())), ("fail", "x")), "y", (("tell", "y"), want(1, ask("x"))))) + (SLOW,),
    program(do((want(1, ask("x"), (None, "call", "slow", ())),), (want(1, (None, "call", "slow", ())),)), ("tell", "x")) + (SLOW,),
    program(want(2, ("x", "call", "sub", (3, 4)), ("y", "call", "main", ())), ("give", "x")) + (SUB,),
    program(("while", 1, (do((want(1, ask("x")), ("if", "x", (("fail", "x"),), ())), (want(1, ask()),)),))),
    WHOLE,
)


class Made(unittest.TestCase):
    def made(self, value):
        self.assertTrue(is_program(value))
        before = copy.deepcopy(value)
        machines, paper = made(value)
        self.assertEqual(made(value), (machines, paper))
        self.assertEqual(value, before)
        self.assertTrue(plain((machines, paper)))
        self.assertTrue(is_machines(machines))
        self.assertIsNone(judged(value, machines, paper))
        self.assertEqual(OracleJudge(value, machines, paper).unkept, [])
        self.assertEqual(len(machines), len(value))
        for errand, machine, pairs in zip(value, machines, paper):
            self.assertEqual((machine[0], machine[1]), (errand[0], len(errand[1])))
            self.assertEqual(len(machine[3]), len(pairs))
            self.assertLessEqual(len(machine[3]), 6 * len(rows_of(errand[2])) + 4)
            for _, kept in pairs:
                self.assertEqual(kept, tuple(sorted(kept)))
                self.assertEqual(len({key for key, _ in kept}), len(kept))
                self.assertEqual(len({slot for _, slot in kept}), len(kept))
                self.assertTrue(all(0 <= slot < machine[2] for _, slot in kept))
        return machines

    def test_of_all_kinds_of_rows(self):
        answers = (
            (), (OFF,), (good((0, 0), 2), good((1, 0), 3)), (bad((0, 0), 2), good((1, 0), 0)), (OFF, good((1, 0), 3), OFF, bad((2, 0), 1)),
            (good((0, 0), 2), OFF, good((0, 1, 1, 0), 4), good((1, 0), 1)), (good((0, 1), 5), good((1, 1), 6), good((1, 0), 7), good((2, 2), 8)),
            tuple(good((t, 0), t) for t in range(7)), tuple(bad((t, 0), t) for t in range(7)), (good((0, 0), 2), good((0, 1, 0, 0), 2), OFF),
        )
        for value in PROGRAMS:
            machines = self.made(value)
            for errand in value:
                for events in answers:
                    runs_as_meant(self, value, machines, errand[0], tuple(range(2, 2 + len(errand[1]))), events)

    def test_other_makings_of_all_kinds_of_rows(self):
        for seed, value in enumerate(PROGRAMS * 8):
            dice = random.Random(seed)
            machines, paper = other_making(dice, value)
            self.assertTrue(is_machines(machines))
            self.assertIsNone(judged(value, machines, paper))
            some_run(self, dice, value, machines)

    def test_largest_ones(self):
        names = ("a", "b", "c")
        many = ("main", names, (do((do((), ()), do((), ())), ()),) * 8)
        wide = ("wide", names, (want(4, *[("x", "ask", "sun", "a")] * 4), ("if", "y", (T,) * 8, (T,) * 8), ("while", "z", (T,) * 4), ("give", "x")))
        deep = ("deep", (), (do((do((do((do((), ()),), (do((), ()),)),), ()),), (("try", (do((want(1, ASK),), (want(1, ASK),)),), "x", ()),)),))
        value = (many, wide, deep) + tuple(("e" + name, names, (("while", "a", ()),) * 8) for name in names)
        machines = self.made(value)
        self.assertEqual(len(rows_of(many[2])), 24)
        self.assertEqual(len(names_of(wide)), 6)
        runs_as_meant(self, value, machines, "main", (1, 2, 3), (OFF,))
        runs_as_meant(self, value, machines, "wide", (1, 2, 3), tuple(good((0, b), b) for b in range(4)))
        runs_as_meant(self, value, machines, "deep", (), ())

    def test_by_dice(self):
        for seed in range(250):
            dice = random.Random(seed)
            value = ProgramDice(dice, lively=seed % 3 > 0).program()
            some_run(self, dice, value, self.made(value), 12)

    def test_other_makings_by_dice(self):
        for seed in range(200):
            dice = random.Random(seed)
            value = ProgramDice(dice, lively=seed % 3 > 0).program()
            machines, paper = other_making(dice, value)
            self.assertIsNone(judged(value, machines, paper))
            some_run(self, dice, value, machines, 12)


if __name__ == "__main__":
    unittest.main()
