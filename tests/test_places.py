import copy
import random
import unittest

from errandroom.places import do_at, fall_at, numbers_of, off_at, places, row_at, slid
from errandroom.programs import is_program
from room_oracle import Map
from samples import ASK, ProgramDice

T = ("tell", 1)


def errand(*rows):
    return ("main", (), tuple(rows))


def do(first, undoing):
    return ("do", tuple(first), tuple(undoing))


def tries(first, x, second):
    return ("try", tuple(first), x, tuple(second))


def either(first, second):
    return ("if", 1, tuple(first), tuple(second))


def loop(*rows):
    return ("while", "x", tuple(rows))


# Four deep, with blocks without rows, each kind of row within each kind of block.
DEEP = errand(
    do((tries((do((T,), ()),), "x", (T,)), either((), (loop(T),))), (tries((do((), (T,)),), None, (do((T,), (T,)),)), loop(do((), ())))),
    tries((either((T,), ()), tries((), "y", (T,))), "z", ()),
    loop(),
    ("want", 1, (ASK,)),
    ("give", 1),
)


class Places(unittest.TestCase):
    def both(self, one):
        self.assertTrue(is_program((one,)))
        before = copy.deepcopy(one)
        told = places(one)
        self.assertEqual(places(one), told)
        self.assertEqual(one, before)
        return told

    def test_of_no_rows(self):
        self.assertEqual(self.both(errand()), ((0,),))

    def test_of_plain_rows(self):
        rows = (("set", "x", 1), T, ("want", 1, (ASK,)), ("fail", 1), ("give", 1))
        self.assertEqual(self.both(errand(*rows)), ((0,), (1,), (2,), (3,), (4,), (5,)))

    def test_of_each_kind(self):
        self.assertEqual(self.both(errand(either((T, T), (T,)))), (
            (0,), (0, 0, 0), (0, 0, 1), (0, 0, 2), (0, 1, 0), (0, 1, 1), (1,),
        ))
        self.assertEqual(self.both(errand(loop(T))), ((0,), (0, 0), (0, 0, 0), (0, 0, 1), (1,)))
        self.assertEqual(self.both(errand(tries((T,), None, ()))), ((0,), (0, 0, 0), (0, 0, 1), (0, 1, 0), (1,)))
        self.assertEqual(self.both(errand(do((T,), (T,)))), ((0,), (0, 0, 0), (0, 0, 1), (0, 1), (0, 1, 0), (0, 1, 1), (1,)))

    def test_of_blocks_without_rows(self):
        self.assertEqual(self.both(errand(loop(), do((), ()))), (
            (0,), (0, 0), (0, 0, 0), (1,), (1, 0, 0), (1, 1), (1, 1, 0), (2,),
        ))

    def test_four_deep(self):
        one = errand(T, do((), (loop(either((), (tries((), "x", ()),))),)))
        self.assertIn((1, 1, 0, 0, 0, 1, 0, 1, 0), self.both(one))
        self.assertEqual(row_at(one, (1, 1, 0, 0, 0, 1, 0)), tries((), "x", ()))
        self.assertEqual(self.both(DEEP), tuple(sorted(Map(DEEP).row)))


class Rows(unittest.TestCase):
    def test_of_rows(self):
        self.assertEqual(row_at(DEEP, (0,)), DEEP[2][0])
        self.assertEqual(row_at(DEEP, (4,)), ("give", 1))
        self.assertEqual(row_at(DEEP, (0, 0, 0, 0, 0)), do((T,), ()))
        self.assertEqual(row_at(DEEP, (0, 1, 0, 1, 0, 1, 0)), T)
        self.assertEqual(row_at(DEEP, (1, 0, 1, 1, 0)), T)

    def test_of_what_is_no_rows_place(self):
        one = errand(loop(T), do((T,), (T,)), either((T,), ()), tries((T,), None, (T,)), T)
        for place in (
            (), (5,), (6,), (-1,), (0, 0), (0, 1), (1, 1), (1, 0), (0, 0, 1), (0, 1, 0), (0, -1, 0), (0, 0, -1), (1, 0, 1), (1, 1, 1),
            (1, 2, 0), (2, 1, 0), (2, 0, 1), (3, 0, 1), (3, 1, 1), (3, 2, 0), (4, 0, 0), (4, 0), (5, 0, 0), (0, 0, 0, 0), (0, 0, 0, 0, 0),
            (1, 1, 0, 1), (9, 9, 9, 9, 9), (-1, 0, 0), (0, 0, 5, 0, 0),
        ):
            self.assertIsNone(row_at(one, place), place)


class Slides(unittest.TestCase):
    def check(self, one, pairs):
        for place, told in pairs:
            self.assertEqual(slid(one, place), told, place)
            self.assertEqual(slid(one, place), told, place)

    def test_where_something_is_done(self):
        one = errand(("set", "x", 1), T, either((T,), ()), loop(T), do((T,), (T,)), ("want", 1, (ASK,)), ("fail", 1), ("give", 2))
        stay = [(i,) for i in range(9)] + [(2, 0, 0), (3, 0), (3, 0, 0), (4, 0, 0), (4, 0, 1), (4, 1), (4, 1, 0), (4, 1, 1)]
        self.check(one, [(place, place) for place in stay])

    def test_tries(self):
        self.check(errand(tries((T,), "x", (T,)), T), [((0,), (0, 0, 0)), ((0, 0, 1), (1,)), ((0, 1, 0), (0, 1, 0)), ((0, 1, 1), (1,))])
        self.check(errand(tries((), "x", (T,)), T), [((0,), (1,)), ((0, 0, 0), (1,)), ((0, 1, 0), (0, 1, 0))])
        self.check(errand(tries((tries((T,), None, ()),), "x", ())), [((0,), (0, 0, 0, 0, 0)), ((0, 0, 0, 0, 1), (1,)), ((0, 1, 0), (1,))])

    def test_ends_of_ifs(self):
        one = errand(either((T,), ()), T)
        self.check(one, [((0,), (0,)), ((0, 0, 1), (1,)), ((0, 1, 0), (1,))])

    def test_ends_of_whiles(self):
        self.check(errand(T, loop(T)), [((1, 0, 1), (1,)), ((1, 0), (1, 0)), ((1, 0, 0), (1, 0, 0)), ((2,), (2,))])
        self.check(errand(loop()), [((0, 0, 0), (0,)), ((0, 0), (0, 0))])

    def test_ends_of_dos_do_not_slide(self):
        self.check(errand(do((), ())), [((0, 0, 0), (0, 0, 0)), ((0, 1, 0), (0, 1, 0)), ((0, 1), (0, 1)), ((0,), (0,))])

    def test_over_several_steps(self):
        one = errand(loop(either((tries((), "x", (either((), ()),)),), ())), T)
        # From the innermost end behind its if, to the ends of the second block, the try and the outer if, to the while.
        self.check(one, [((0, 0, 0, 0, 0, 1, 0, 0, 0), (0,)), ((0, 0, 0, 0, 0, 1, 1), (0,)), ((0, 0, 0, 0, 0), (0,)), ((0, 0, 0, 1, 0), (0,))])
        one = errand(do((tries((tries((), "x", ()),), "y", ()),), (either((), (tries((), None, ()),)),)), T)
        self.check(one, [
            ((0, 0, 0), (0, 0, 1)), ((0, 0, 0, 0, 0, 1, 0), (0, 0, 1)), ((0, 1, 0, 1, 0), (0, 1, 1)), ((0, 1, 0, 1, 0, 1, 0), (0, 1, 1)),
        ])
        one = errand(tries((), None, ()), tries((), None, ()), tries((T,), None, ()))
        self.check(one, [((0,), (2, 0, 0)), ((1, 1, 0), (2, 0, 0)), ((2, 0, 1), (3,)), ((2, 1, 0), (3,))])


class FallsAndOffs(unittest.TestCase):
    def check(self, one, rows):
        for place, fall, off in rows:
            self.assertEqual((fall_at(one, place), off_at(one, place)), (fall, off), place)
            self.assertEqual((fall_at(one, place), off_at(one, place)), (fall, off), place)

    def test_of_none(self):
        one = errand(T, either((T,), ()), loop(T))
        self.check(one, [(place, None, None) for place in places(one)])

    def test_in_tries(self):
        one = errand(tries((T, either((T,), ())), "x", (T,)), T)
        caught = ("catch", "x", (0, 1, 0))
        within = [(0, 0, 0), (0, 0, 1), (0, 0, 1, 0, 0), (0, 0, 1, 0, 1), (0, 0, 1, 1, 0), (0, 0, 2)]
        self.check(one, [(place, caught, None) for place in within])
        self.check(one, [(place, None, None) for place in ((0,), (0, 1, 0), (0, 1, 1), (1,), (2,))])
        self.check(errand(tries((T,), None, ())), [((0, 0, 0), ("catch", None, (0, 1, 0)), None), ((0, 1, 0), None, None)])

    def test_in_dos(self):
        one = errand(T, do((T, loop(T)), (T, T)), T)
        began, ended = ("undo", 0, (1, 1)), ("undo", 0, (1, 1, 2))
        first = [(1, 0, 0), (1, 0, 1), (1, 0, 1, 0), (1, 0, 1, 0, 0), (1, 0, 1, 0, 1), (1, 0, 2)]
        self.check(one, [(place, began, (1, 1)) for place in first])
        self.check(one, [(place, ended, "shut") for place in ((1, 1), (1, 1, 0), (1, 1, 1))])
        # The end of the undoing counts as outside.
        self.check(one, [(place, None, None) for place in ((1, 1, 2), (1,), (0,), (2,), (3,))])

    def test_an_undoing_without_rows(self):
        one = errand(do((do((), ()),), ()))
        self.check(one, [((0, 1), ("undo", 0, (0, 1, 0)), "shut"), ((0, 1, 0), None, None), ((0, 0, 1), ("undo", 0, (0, 1)), (0, 1))])
        self.check(one, [((0, 0, 0, 1), ("undo", 1, (0, 0, 0, 1, 0)), "shut"), ((0, 0, 0, 1, 0), ("undo", 0, (0, 1)), (0, 1))])

    def test_the_innermost_is_told(self):
        one = errand(do((tries((do((T,), (T,)),), "x", (T,)),), (T,)))
        outer, inner = ("undo", 0, (0, 1)), ("undo", 1, (0, 0, 0, 0, 0, 1))
        self.check(one, [
            ((0, 0, 0), outer, (0, 1)), ((0, 0, 0, 0, 0), ("catch", "x", (0, 0, 0, 1, 0)), (0, 1)),
            ((0, 0, 0, 0, 0, 0, 0), inner, (0, 0, 0, 0, 0, 1)), ((0, 0, 0, 0, 0, 0, 1), inner, (0, 0, 0, 0, 0, 1)),
            ((0, 0, 0, 0, 0, 1, 0), ("undo", 1, (0, 0, 0, 0, 0, 1, 1)), "shut"),
            ((0, 0, 0, 0, 0, 1, 1), ("catch", "x", (0, 0, 0, 1, 0)), (0, 1)), ((0, 0, 0, 1, 0), outer, (0, 1)),
        ])

    def test_within_undoings_it_is_shut_however_deep(self):
        one = errand(do((), (tries((do((T,), (T,)),), "x", (T,)), T)))
        ended = ("undo", 0, (0, 1, 2))
        self.check(one, [
            ((0, 1), ended, "shut"), ((0, 1, 0, 0, 0), ("catch", "x", (0, 1, 0, 1, 0)), "shut"),
            ((0, 1, 0, 0, 0, 0, 0), ("undo", 1, (0, 1, 0, 0, 0, 1)), "shut"), ((0, 1, 0, 0, 0, 1), ("undo", 1, (0, 1, 0, 0, 0, 1, 1)), "shut"),
            ((0, 1, 0, 0, 0, 1, 1), ("catch", "x", (0, 1, 0, 1, 0)), "shut"), ((0, 1, 0, 1, 0), ended, "shut"), ((0, 1, 1), ended, "shut"),
            ((0, 1, 2), None, None),
        ])

    def test_the_end_of_an_undoing_in_an_undoing(self):
        one = errand(do((), (do((), (T,)),)))
        self.check(one, [((0, 1, 0, 1, 1), ("undo", 0, (0, 1, 1)), "shut"), ((0, 1, 1), None, None)])

    def test_a_round_counts_as_at_its_while(self):
        one = errand(tries((loop(T),), "x", ()), do((loop(),), (loop(),)))
        self.check(one, [
            ((0, 0, 0, 0), ("catch", "x", (0, 1, 0)), None), ((1, 0, 0, 0), ("undo", 0, (1, 1)), (1, 1)),
            ((1, 1, 0, 0), ("undo", 0, (1, 1, 1)), "shut"),
        ])


class Dos(unittest.TestCase):
    def test_numbers(self):
        self.assertEqual(numbers_of(errand(T)), ())
        self.assertEqual(numbers_of(errand(do((), ()))), (((0,), 0),))
        one = errand(do((do((), ()), T), (do((), ()),)), either((do((), ()),), (do((), ()),)), loop(do((), ())), tries((do((), ()),), "x", (do((), ()),)))
        at = ((0,), (0, 0, 0), (0, 1, 0), (1, 0, 0), (1, 1, 0), (2, 0, 0), (3, 0, 0), (3, 1, 0))
        self.assertEqual(numbers_of(one), tuple((place, d) for d, place in enumerate(at)))
        for d, place in enumerate(at):
            self.assertEqual(do_at(one, d), place)
            self.assertEqual(do_at(one, d), place)

    def test_very_many(self):
        row = do((do((), ()), do((), ())), ())
        one = errand(*[row] * 8)
        self.assertEqual([d for _, d in numbers_of(one)], list(range(24)))
        self.assertEqual((do_at(one, 0), do_at(one, 2), do_at(one, 3), do_at(one, 23)), ((0,), (0, 0, 1), (1,), (7, 0, 1)))


class ByDice(unittest.TestCase):
    def test_as_another_way_tells_them(self):
        for seed in range(300):
            for one in ProgramDice(random.Random(seed)).program() + (DEEP,):
                told = Map(one)
                self.assertEqual(places(one), tuple(sorted(told.row)))
                self.assertEqual(numbers_of(one), tuple((place, d) for d, place in enumerate(told.dos)))
                for place in places(one):
                    self.assertEqual(row_at(one, place), told.row[place])
                    self.assertEqual(slid(one, place), told.slid(place))
                    self.assertEqual(fall_at(one, place), told.fall[place])
                    self.assertEqual(off_at(one, place), told.off[place])


if __name__ == "__main__":
    unittest.main()
