import random
import unittest

from errandroom.joining import joined
from errandroom.making import made
from errandroom.merging import merged
from errandroom.pruning import pruned
from makings import other_making, room
from passes import END, S, Case, by_steps, check_by_dice, joined_by_steps, led, led_anew, merged_by_steps, pruned_by_steps
from samples import ProgramDice
from test_judging import some_run

ASK = ((None, "ask", "sun", 1),)
T = [("tell", n) for n in range(9)]


class Merged(unittest.TestCase):
    def case(self, *rows, params=()):
        return Case(self, merged, rows, params)

    def test_nothing_to_merge(self):
        self.case().same((END,), [((0,), ())])
        self.case(T[1]).same((room(("go", 1), [T[1]]), END), [((0,), ()), ((1,), ())])

    FORK = (("if", 1, (), ()), T[1])

    def test_the_first_stands_for_all(self):
        tell = room(("give", 0), [T[1]])
        self.case(*self.FORK).told(
            (room(("fork", 1, 2, 3)), END, tell, tell, tell), [((0,), ()), ((2,), ())] + [((1,), ())] * 3,
            (room(("fork", 1, 2, 2)), END, tell), [((0,), ()), ((2,), ()), ((1,), ())],
        )

    def test_places_that_are_alike_only_when_slid(self):
        tell = room(("give", 0), [T[1]])
        for first, second in (((1,), (0, 0, 0)), ((0, 1, 0), (1,)), ((0, 0, 0), (0, 1, 0))):
            self.case(*self.FORK).told(
                (room(("fork", 1, 1, 2)), tell, tell), [((0,), ()), (first, ()), (second, ())],
                (room(("fork", 1, 1, 1)), tell), [((0,), ()), (first, ())],
            )

    def test_places_that_are_not_alike(self):
        rows = (("if", 1, (T[1],), (T[1],)), T[2])
        rooms = (room(("fork", 1, 1, 2)), room(("go", 3), [T[1]]), room(("go", 3), [T[1]]), room(("give", 0), [T[2]]))
        self.case(*rows).same(rooms, [((0,), ()), ((0, 0, 0), ()), ((0, 1, 0), ()), ((1,), ())])

    def test_kept_pairs_that_are_not_the_same(self):
        tell = room(("give", 0), [T[1]])
        held = [("a", 0), ("b", 1)]
        for first, second in (((), held), (held[:1], held), (held[:1], held[1:])):
            self.case(*self.FORK, params=("a", "b")).same((room(("fork", 1, 1, 2)), tell, tell), [((0,), held), ((1,), first), ((1,), second)])
        self.case(*self.FORK, params=("a", "b")).told(
            (room(("fork", 1, 1, 2)), tell, tell), [((0,), held), ((1,), held), ((1,), held)],
            (room(("fork", 1, 1, 1)), tell), [((0,), held), ((1,), held)],
        )

    def test_rows_that_are_not_the_same(self):
        rows = (("set", "x", 1), ("set", "x", 2), ("if", 1, (), ()), ("set", "x", 3))
        first = room(("fork", 1, 1, 2), [("put", 0, 1), ("put", 0, 2)])
        pairs = [((0,), ()), ((3,), ()), ((3,), ())]
        self.case(*rows).same((first, room(("give", 0), [("put", 0, 3)]), room(("give", 0), [("put", 1, 3)])), pairs)
        self.case(*rows).same((first, room(("give", 0), [("put", 0, 3)]), room(("go", 3), [("put", 0, 3)]), END), pairs + [((4,), ())])

    def test_doors_falls_and_offs_that_are_not_the_same(self):
        rows = (("do", (("if", 1, (), ()), ("want", 1, ASK)), ()),)
        undo = room(("out", 1), [("mark", "undo", 0), ("mark", "undone", 0)])
        other = room(("out", 2), undo[0])
        done = room(("give", 0), [("mark", "done", 0)])
        first = room(("fork", 1, 1, 2), [("mark", "do", 0)])
        pairs = [((0,), ()), ((0, 0, 1), ()), ((0, 0, 1), ()), ((0, 1), [("0", 1)]), ((0, 1), [("0", 2)]), ((0, 0, 2), ()), ((0, 0, 2), ()), ((1,), ())]
        want = lambda to, fall, off: room(("want", 1, ASK, to), fall=fall, off=off)
        last = room(("go", 7), [("mark", "done", 0)])
        rooms = lambda one, two: (first, one, two, undo, other, done, last, END)
        for one, two in (((5, (1, 3), 3), (6, (1, 3), 3)), ((5, (1, 3), 3), (5, (2, 4), 3)), ((5, (1, 3), 3), (5, (1, 3), 4))):
            self.case(*rows).same(rooms(want(*one), want(*two)), pairs)
        same = want(5, (1, 3), 4)
        down = want(4, (1, 2), 3)
        self.case(*rows).told(rooms(same, same), pairs, (
            room(("fork", 1, 1, 1), first[0]), down, undo, other, done, room(("go", 6), last[0]), END,
        ), pairs[:2] + pairs[3:])

    def test_rooms_that_become_the_same_behind_an_earlier_merging(self):
        rows = (("if", 1, (), ()), T[1], T[2], T[3])
        # Of two chains the last rooms are the same at first, then those that lead there, and so on.
        rooms = (
            room(("fork", 1, 1, 4)), room(("go", 2), [T[1]]), room(("go", 3), [T[2]]), room(("give", 0), [T[3]]),
            room(("go", 5), [T[1]]), room(("go", 6), [T[2]]), room(("give", 0), [T[3]]),
        )
        chain = [((1,), ()), ((2,), ()), ((3,), ())]
        self.case(*rows).told(rooms, [((0,), ())] + chain * 2, (room(("fork", 1, 1, 1)),) + rooms[1:4], [((0,), ())] + chain)

    def test_a_first_that_is_merged_itself_later(self):
        rows = (("if", 1, (("if", 1, (), ()),), ()), T[1], T[2])
        tells = [room(("go", to), [T[1]]) for to in (5, 6, 7)]
        last = room(("give", 0), [T[2]])
        rooms = (room(("fork", 1, 1, 4)), room(("fork", 1, 2, 3)), tells[0], tells[1], tells[2], last, last, last)
        pairs = [((0,), ()), ((0, 0, 0), ()), ((1,), ()), ((1,), ()), ((1,), ()), ((2,), ()), ((2,), ()), ((2,), ())]
        self.case(*rows).told(rooms, pairs, (
            room(("fork", 1, 1, 2)), room(("fork", 1, 2, 2)), room(("go", 3), [T[1]]), last,
        ), [pairs[0], pairs[1], pairs[2], pairs[5]])

    def test_room_0_stands_for_others(self):
        rows = (("while", 1, (T[1],)),)
        rooms = (room(("fork", 1, 1, 3)), room(("round", 2)), room(("go", 4), [T[1]]), END, room(("fork", 1, 1, 3)))
        pairs = [((0,), ()), ((0, 0), ()), ((0, 0, 0), ()), ((1,), ()), ((0,), ())]
        self.case(*rows).told(rooms, pairs, (rooms[0], rooms[1], room(("go", 0), [T[1]]), END), pairs[:4])

    def test_rounds_of_rooms_that_lead_to_unlike_numbers_stay(self):
        rows = (("while", 1, (T[1],)),)
        rooms = (
            room(("fork", 1, 1, 3)), room(("round", 2)), room(("go", 4), [T[1]]), END,
            room(("fork", 1, 5, 3)), room(("round", 6)), room(("go", 0), [T[1]]),
        )
        self.case(*rows).same(rooms, [((0,), ()), ((0, 0), ()), ((0, 0, 0), ()), ((1,), ()), ((0,), ()), ((0, 0), ()), ((0, 0, 0), ())])

    def test_rooms_of_other_machines_are_left_alone(self):
        program = (("a", (), ()), ("b", (), ()))
        pair = ((0,), ())
        told = led(self, merged, program, (("a", 0, 0, (END, END)), ("b", 0, 7, (END,))), ((pair, pair), (pair,)))
        self.assertEqual(told, ((("a", 0, 0, (END,)), ("b", 0, 7, (END,))), ((pair,), (pair,))))

    def test_by_dice(self):
        fewer = 0
        for seed in range(120):
            dice = random.Random(seed)
            program = ProgramDice(dice, lively=seed % 2 == 0).program()
            machines, paper = doubled(*other_making(dice, program), dice)
            told = check_by_dice(self, merged, merged_by_steps, dice, program, machines, paper)
            self.assertEqual([one[2] for one in told[0]], [one[2] for one in machines])
            fewer += told != (machines, paper)
            some_run(self, dice, program, told[0], 8)
        self.assertGreater(fewer, 100)

    def test_all_passes_in_turn(self):
        passes = ((pruned, pruned_by_steps), (joined, joined_by_steps), (merged, merged_by_steps))
        for seed in range(60):
            dice = random.Random(seed)
            program = ProgramDice(dice, lively=True).program()
            told = doubled(*other_making(dice, program), dice)
            for one_pass, steps in dice.sample(passes * 2, 6):
                again = by_steps(steps, program, *told)
                told = led(self, one_pass, program, *told)
                self.assertEqual(told, again)
            some_run(self, dice, program, told[0])

    def test_what_is_made_has_nothing_to_merge(self):
        program = (("main", ("a",), (("if", "a", (T[1],), (T[1],)), ("do", (), ()), ("do", (), ()))),)
        self.assertEqual(led(self, merged, program, *made(program)), made(program))


def doubled(machines, paper, dice):
    """With each room twice, and each lead to one of both."""
    new_machines, new_paper = [], []
    for (name, many, slots, rooms), pairs in zip(machines, paper):
        count = len(rooms)
        if 2 * count <= 160:
            some = lambda r: r + dice.choice((0, count))
            rooms, pairs = tuple(led_anew(one, some) for one in rooms + rooms), pairs + pairs
        new_machines.append((name, many, slots, rooms))
        new_paper.append(pairs)
    return tuple(new_machines), tuple(new_paper)


if __name__ == "__main__":
    unittest.main()
