import random
import unittest

from errandroom.joining import joined
from errandroom.making import made
from errandroom.merging import merged
from errandroom.pruning import pruned
from errandroom.sharing import shared
from errandroom.shorter import shorter
from makings import other_making, room
from passes import END, S, Case, by_steps, joined_by_steps, led, merged_by_steps, pruned_by_steps, shared_by_steps
from samples import WHOLE, ProgramDice
from test_judging import runs_as_meant, some_run
from test_merging import doubled

PASSES = (pruned, joined, shared, merged)
T = [("tell", n) for n in range(9)]


def sizes(machines):
    return [(len(machine[3]), machine[2]) for machine in machines]


def by_turns(program, machines, paper):
    """All four, over again till nothing is fewer, each told a second time; and how often they were gone through."""
    turns = 0
    while True:
        before, turns = sizes(machines), turns + 1
        for steps in (pruned_by_steps, joined_by_steps):
            machines, paper = by_steps(steps, program, machines, paper)
        machines, paper = shared_by_steps(program, machines, paper)
        machines, paper = by_steps(merged_by_steps, program, machines, paper)
        if sizes(machines) == before:
            return (machines, paper), turns


class Shorter(unittest.TestCase):
    def case(self, *rows, params=(), slots=6):
        return Case(self, shorter, rows, params, slots)

    def check(self, program, machines, paper):
        told = led(self, shorter, program, machines, paper)
        again, turns = by_turns(program, machines, paper)
        self.assertEqual(told, again)
        self.assertEqual(sizes(shorter(program, *told)[0]), sizes(told[0]))
        for one_pass in PASSES:
            self.assertEqual(sizes(one_pass(program, *told)[0]), sizes(told[0]))
        return told, turns

    def test_nothing_to_shorten(self):
        self.case(slots=0).same((END,), [((0,), ())])
        rooms = (room(("fork", S[0], 1, 2)), room(("give", 1)), END)
        pairs = [((0,), [("a", 0)]), ((0, 0, 0), ()), ((1,), ())]
        self.case(("if", "a", (("give", 1),), ()), params=("a",), slots=1).same(rooms, pairs)

    def test_each_pass_takes_its_part(self):
        # The first go alone leads to the second room; of the three that tell x one is never come to, and two do the same.
        rows = (T[1], ("set", "x", "a"), ("if", "x", (), ()), ("tell", "x"))
        tell = room(("give", 0), [("tell", S[4])])
        self.case(*rows, params=("a",)).told(
            (room(("go", 1), [T[1]]), room(("fork", S[4], 2, 3), [("put", 4, S[0])]), tell, tell, tell),
            [((0,), [("a", 0)]), ((1,), [("a", 0)]), ((3,), [("x", 4)]), ((3,), [("a", 0), ("x", 4)]), ((3,), [("x", 4)])],
            (room(("fork", S[0], 1, 1), [T[1], ("put", 0, S[0])]), room(("give", 0), [("tell", S[0])])),
            [((0,), [("a", 0)]), ((3,), [("x", 0)])], 1,
        )

    def test_over_again(self):
        # Each block has a chain of rooms of its own; both become one.
        rows = (("if", 1, (), ()), T[1], ("if", 1, (), ()), T[2])
        chain = lambda r: (room(("go", r + 1), [T[1]]), room(("fork", 1, r + 2, r + 3)), room(("give", 0), [T[2]]), room(("give", 0), [T[2]]))
        pairs = [((1,), ()), ((2,), ()), ((3,), ()), ((3,), ())]
        program = (("main", (), rows),)
        machines = (("main", 0, 0, (room(("fork", 1, 1, 5)),) + chain(1) + chain(5)),)
        told, turns = self.check(program, machines, ((((0,), ()),) + tuple(pairs + pairs),))
        self.assertEqual(told, (
            (("main", 0, 0, (room(("fork", 1, 1, 1)), room(("fork", 1, 2, 2), [T[1]]), room(("give", 0), [T[2]]))),),
            ((((0,), ()), ((1,), ()), ((3,), ())),),
        ))
        self.assertEqual(turns, 2)

    def test_what_merging_leaves_for_another_turn(self):
        # Two rooms tell 1 and lead to one; when they are one, a single go leads there.
        program = (("main", (), (("if", 1, (), ()), T[1], T[2], T[3])),)
        rooms = (
            room(("fork", 1, 1, 2)), room(("go", 3), [T[1]]), room(("go", 3), [T[1]]), room(("go", 4), [T[2]]), room(("give", 0), [T[3]]),
        )
        pairs = (((0,), ()), ((1,), ()), ((1,), ()), ((2,), ()), ((3,), ()))
        told, turns = self.check(program, (("main", 0, 0, rooms),), (pairs,))
        self.assertEqual(told, (
            (("main", 0, 0, (room(("fork", 1, 1, 1)), room(("give", 0), [T[1], T[2], T[3]]))),), ((((0,), ()), ((1,), ())),),
        ))
        self.assertEqual(turns, 3)

    def test_whole(self):
        told, _ = self.check(WHOLE, *made(WHOLE))
        self.assertEqual([machine[2] for machine in told[0]], [3, 2, 0])
        self.assertLess(len(told[0][0][3]), len(made(WHOLE)[0][0][3]))
        runs_as_meant(self, WHOLE, told[0], "main", (3, 4), (("answer", (0, 0), True, 2), ("answer", (1, 2), False, 2), ("off",)))

    def test_by_dice(self):
        most = 0
        for seed in range(90):
            dice = random.Random(seed)
            program = ProgramDice(dice, lively=seed % 2 == 0).program()
            parts = made(program) if seed % 4 == 0 else doubled(*other_making(dice, program), dice)
            told, turns = self.check(program, *parts)
            most = max(most, turns)
            some_run(self, dice, program, told[0], 8)
        self.assertGreater(most, 2)

    def test_any_row_of_passes(self):
        for seed in range(60):
            dice = random.Random(seed)
            program = ProgramDice(dice, lively=True).program()
            told = doubled(*other_making(dice, program), dice)
            for _ in range(dice.randint(1, 6)):
                told = led(self, dice.choice(PASSES), program, *told)
            some_run(self, dice, program, told[0])
            some_run(self, dice, program, shorter(program, *told)[0])


if __name__ == "__main__":
    unittest.main()
