import random
import unittest

from errandroom.joining import joined
from errandroom.making import made
from errandroom.merging import merged
from errandroom.pruning import pruned
from errandroom.sharing import shared
from makings import other_making, room
from passes import END, S, Case, led, shared_by_steps
from samples import ProgramDice
from test_judging import some_run

T = ("tell", 1)


def sets(x, one=1):
    return ("set", x, one)


def tells(*names):
    one = names[0]
    for name in names[1:]:
        one = ("+", one, name)
    return ("tell", one)


def ask(x=None, n=1):
    return (x, "ask", "sun", n)


def want(least, *branches):
    return ("want", least, branches)


def puts(s, one=1):
    return ("put", s, one)


class Slots(unittest.TestCase):
    """Which slot each key gets, and how many there are, seen by what is made."""

    def told(self, rows, params=()):
        program = (("main", params, tuple(rows)),)
        told = led(self, shared, program, *made(program))
        self.assertEqual(told, shared_by_steps(program, *made(program)))
        return told[0][0], told[1][0]

    def check(self, rows, slots, *rooms, params=()):
        """The machine has so many slots, and the first rooms, in the order of their places, are these."""
        told = self.told(rows, params)[0]
        self.assertEqual(told[2], slots)
        self.assertEqual(told[3][:len(rooms)], rooms)

    def kept(self, rows, params=()):
        return dict(self.told(rows, params)[1])

    def test_keys_that_may_lie_together(self):
        self.check((sets("x"), tells("x"), sets("y"), tells("y")), 1, *[
            room(("go", 1), [puts(0)]), room(("go", 2), [("tell", S[0])]), room(("go", 3), [puts(0)]), room(("go", 4), [("tell", S[0])]), END,
        ])
        # One is read for the last time where the other one is set.
        self.check((sets("x"), sets("y", "x"), tells("y")), 1, room(("go", 1), [puts(0)]), room(("go", 2), [puts(0, S[0])]))
        # On ways that never meet.
        self.check((("if", 1, (sets("x"), tells("x")), (sets("y"), tells("y"))),), 1)

    def test_both_needed_at_one_place(self):
        self.check((sets("x"), sets("y"), tells("x", "y")), 2, *[
            room(("go", 1), [puts(0)]), room(("go", 2), [puts(1)]), room(("go", 3), [("tell", ("+", S[0], S[1]))]),
        ])
        self.check((sets("x"), sets("y"), tells("x"), tells("y")), 2)
        self.check((sets("y"), sets("x"), tells("x"), tells("y")), 2, room(("go", 1), [puts(1)]), room(("go", 2), [puts(0)]))

    def test_needed_together_at_places_that_nothing_comes_to(self):
        rows = (sets("x"), tells("x"), sets("y"), tells("y"), ("give", 1), tells("x", "y"))
        self.check(rows, 2, room(("go", 1), [puts(0)]), room(("go", 2), [("tell", S[0])]), room(("go", 3), [puts(1)]))

    def test_one_that_is_set_on_a_lead_to_where_the_other_is_needed(self):
        # Never read, it is set nevertheless.
        self.check((sets("x"), sets("y"), tells("x")), 2, *[
            room(("go", 1), [puts(0)]), room(("go", 2), [puts(1)]), room(("go", 3), [("tell", S[0])]),
        ])
        self.check((sets("y"), sets("x"), tells("y")), 2, room(("go", 1), [puts(1)]), room(("go", 2), [puts(0)]))
        # Set ahead of the other one, or behind all that reads it, it may lie there.
        self.check((sets("y"), sets("x"), tells("x")), 1)
        self.check((sets("x"), tells("x"), sets("y")), 1)
        # The other one is needed behind the row of the other block only.
        self.check((sets("x"), ("if", 1, (sets("y"),), (tells("x"),))), 1)
        self.check((sets("x"), ("if", 1, (sets("y"),), ()), tells("x")), 2)

    def test_set_by_a_catch_though_not_needed(self):
        fails = ("fail", 1)
        rows = (sets("b"), ("try", (fails,), "a", (tells("b"),)))
        # Told by None, a stands nowhere, but b lies beside its slot.
        self.check(rows, 2, room(("go", 1), [puts(1)]), room(("fail", 1), fall=(None, 2)), room(("go", 3), [("tell", S[1])]), END)
        # The other way round only the slot of the one that stands is there.
        rows = (sets("a"), ("try", (fails,), "b", (tells("a"),)))
        self.check(rows, 1, room(("go", 1), [puts(0)]), room(("fail", 1), fall=(None, 2)))
        rows = (sets("a"), ("try", (fails,), "b", (tells("a", "b"),)))
        self.check(rows, 2, room(("go", 1), [puts(0)]), room(("fail", 1), fall=(1, 2)))

    def test_set_by_a_want_for_all_though_not_needed(self):
        rows = lambda *branches: (sets("b"), want(2, *branches), tells("b"))
        first = lambda s, t: (room(("go", 1), [puts(1)]), room(("want", 2, (ask(s), ask(t)), 2)))
        self.check(rows(ask("a"), ask("a")), 2, *first(None, None))
        self.check(rows(ask("b"), ask("a")), 2, *first(1, None))
        rows = (want(2, ask("a"), ask("b")), tells("b"), tells("a"))
        self.check(rows, 2, room(("want", 2, (ask(0), ask(1)), 1)))
        # Two that are both set, but never needed, are never told.
        self.check((want(2, ask("a"), ask("b")),), 0, room(("want", 2, (ask(), ask()), 1)))
        self.check((want(2, ask("a"), ask("b")), T), 0)
        # One of both is needed: they may not lie together.
        self.check((want(2, ask("a"), ask("b")), tells("b")), 2, room(("want", 2, (ask(), ask(1)), 1)))
        self.check((want(2, ask("a"), ask("b")), tells("a")), 1, room(("want", 2, (ask(0), ask()), 1)))

    def test_a_want_for_fewer_sets_nothing_that_is_not_needed(self):
        rows = (sets("b"), want(1, ask("a"), ask()), tells("b"))
        self.check(rows, 1, room(("go", 1), [puts(0)]), room(("want", 1, (ask(), ask()), 2)))
        rows = (sets("b"), want(1, ask("a"), ask("b")), tells("b"))
        self.check(rows, 1, room(("go", 1), [puts(0)]), room(("want", 1, (ask(), ask(0)), 2)))
        rows = (sets("b"), want(1, ask("a"), ask()), tells("a", "b"))
        self.check(rows, 2, room(("go", 1), [puts(1)]), room(("want", 1, (ask(0), ask()), 2)))

    def test_the_numbers_that_wants_send(self):
        rows = (sets("x"), sets("y"), want(1, ask("x", "y"), (None, "call", "main", ())), tells("x"))
        call = (None, "call", "main", ())
        self.check(rows, 2, room(("go", 1), [puts(0)]), room(("go", 2), [puts(1)]), room(("want", 1, (ask(0, S[1]), call), 3)))
        program = (("main", (), (sets("x"), want(1, (None, "call", "sub", ("x", ("+", "x", 2)))))), ("sub", ("p", "q"), ()))
        told = led(self, shared, program, *made(program))
        self.assertEqual(told[0][0][3][1][1], ("want", 1, ((None, "call", "sub", (S[0], ("+", S[0], 2))),), 2))
        self.assertEqual([one[2] for one in told[0]], [1, 2])

    def test_each_param_lies_in_its_own_slot(self):
        # Needed or not, together or not.
        self.check((), 3, END, params=("c", "a", "b"))
        self.check((tells("b"), tells("a")), 3, room(("go", 1), [("tell", S[2])]), room(("go", 2), [("tell", S[1])]), params=("c", "a", "b"))
        self.check((sets("a"), tells("a"), sets("b"), tells("b")), 2, *[
            room(("go", 1), [puts(0)]), room(("go", 2), [("tell", S[0])]), room(("go", 3), [puts(1)]),
        ], params=("a", "b"))

    def test_others_among_the_slots_of_params(self):
        self.check((tells("a"), sets("x"), tells("x")), 1, room(("go", 1), [("tell", S[0])]), room(("go", 2), [puts(0)]), params=("a",))
        # a is needed still where x is: x lies beside b, which is never needed.
        self.check((sets("x"), tells("a", "x")), 2, room(("go", 1), [puts(1)]), params=("a", "b"))
        self.check((sets("x"), tells("a", "b", "x")), 3, room(("go", 1), [puts(2)]), params=("a", "b"))

    def test_needed_at_the_beginning_behind_all_params(self):
        self.check((tells("x"),), 3, room(("go", 1), [("tell", S[2])]), params=("a", "b"))
        self.check((tells("x"), tells("a")), 2, room(("go", 1), [("tell", S[1])]), room(("go", 2), [("tell", S[0])]), params=("a",))
        self.check((("if", "x", (sets("x"),), ()),), 2, room(("fork", S[1], 1, 2)), params=("a",))
        # By a round or by a want for fewer than all.
        self.check((("while", 1, (tells("x"), sets("x"))),), 2, params=("a",))
        self.check((want(1, ask("x"), ask()), tells("x")), 2, room(("want", 1, (ask(1), ask()), 1)), params=("a",))
        self.check((want(1, ask("x")), tells("x")), 1, room(("want", 1, (ask(0),), 1)), params=("a",))
        # Behind a try that stands first, where the errand begins too.
        self.check((("try", (tells("x"),), None, ()),), 2, room(("go", 1), [("tell", S[1])]), params=("a",))
        # Without params there is nothing to lie behind.
        self.check((tells("x"), sets("y"), tells("y")), 1)

    def test_the_least_slot_that_is_free_of_all_with_which_it_may_not_lie(self):
        rows = (sets("a"), sets("b"), tells("a", "b"), sets("c"), tells("a", "c"), sets("d"), tells("c", "d"))
        # a 0, b 1 (not with a), c 1 (not with a), d 0 (not with c).
        self.check(rows, 2, *[
            room(("go", 1), [puts(0)]), room(("go", 2), [puts(1)]), room(("go", 3), [("tell", ("+", S[0], S[1]))]),
            room(("go", 4), [puts(1)]), room(("go", 5), [("tell", ("+", S[0], S[1]))]), room(("go", 6), [puts(0)]),
            room(("go", 7), [("tell", ("+", S[1], S[0]))]),
        ])
        rows = (sets("a"), tells("a"), sets("b"), tells("b"), sets("c"), sets("b"), tells("b", "c"))
        # a and b share 0; c may lie with a, but not with b.
        self.check(rows, 2, room(("go", 1), [puts(0)]), room(("go", 2), [("tell", S[0])]), room(("go", 3), [puts(0)]))

    def test_names_in_the_order_of_their_texts(self):
        rows = [sets(name) for name in ("b", "ab", "a", "aa")] + [tells("b", "ab", "a", "aa")]
        rooms = self.told(rows)[0][3]
        self.assertEqual([one[0][0][1] for one in rooms[:4]], [3, 2, 0, 1])

    def test_numbers_of_dos(self):
        told, pairs = self.told((("do", (("fail", 5),), (T,)),))
        there = [place for place, _ in pairs]
        rooms = {place: one for place, one in zip(there, told[3])}
        self.assertEqual(rooms[(0, 0, 0)], room(("fail", 5), fall=(0, there.index((0, 1)))))
        self.assertEqual(rooms[(0, 1, 1)], room(("out", 0), [("mark", "undone", 0)]))
        self.assertEqual([place for place, kept in pairs if kept == (("0", 0),)], [(0, 1), (0, 1, 0), (0, 1, 1)])
        self.assertEqual(told[2], 1)

    def test_numbers_lie_with_names_and_other_numbers(self):
        fails = ("fail", 5)
        # The two dos stand behind one another.
        self.assertEqual(self.told((("try", (("do", (fails,), (T,)),), None, ()), ("do", (fails,), (T,))))[0][2], 1)
        # The one that is undone first is through when the other one is set.
        self.assertEqual(self.told((("do", (("do", (fails,), (T,)),), (T,)),))[0][2], 1)
        # In an undoing the outer number is needed behind the inner do; by a fault that goes out of that it is set anew.
        inner = ("do", (("if", "x", (fails,), ()),), (T,))
        self.assertEqual(self.told((("do", (fails,), (inner,)),))[0][2], 2)
        kept = self.kept((("do", (fails,), (("try", (inner,), None, ()),)),))
        self.assertEqual(kept[(0, 1, 0, 0, 0, 1)], (("0", 0), ("1", 1)))
        # A name that is read in the undoing, beside the number; one that is set there.
        kept = self.kept((sets("x"), ("do", (fails,), (tells("x"),))))
        self.assertEqual((kept[(1, 1)], kept[(1, 1, 1)]), ((("0", 0), ("x", 1)), (("0", 0),)))
        self.assertEqual(self.told((("do", (fails,), (sets("x"), tells("x"))),))[0][2], 2)
        self.assertEqual(self.told((("try", (("do", (fails,), ()),), None, (sets("x"), tells("x"))),))[0][2], 1)

    def test_a_number_that_is_never_read_is_told_all_the_same(self):
        # The undoing ends by a fault of its own, so the first number is set and never needed.
        told, pairs = self.told((sets("x"), ("do", (("fail", 1),), (tells("x"), ("fail", 2)))))
        kept = dict(pairs)
        self.assertEqual((kept[(1, 1)], kept[(1, 1, 2)]), ((("x", 1),), (("0", 0),)))
        self.assertEqual([one[2][0] for one in told[3] if one[1][0] == "fail"], [0, 0])

    def test_numbers_rise_as_texts(self):
        fails = ("if", "x", (("fail", 1),), ())
        inner = ("try", (("do", (fails,), (T,)),), None, ())
        seven = tuple([("do", (), ()) for _ in range(7)])
        kept = self.kept((("do", (), ()), ("do", (), seven), ("do", (("fail", 1),), (inner,))))
        # The outer do, 9, needs its number behind the inner one, 10, which comes ahead of it.
        self.assertEqual((kept[(2, 1)], kept[(2, 1, 0, 0, 0, 1)]), ((("9", 1), ("x", 0)), (("10", 0), ("9", 1))))

    def test_wants_in_dos(self):
        rows = (sets("x"), ("do", (want(1, ask("y")), tells("y")), (tells("x"),)))
        told, pairs = self.told(rows)
        kept = dict(pairs)
        # Where the want falls or goes out, x is needed; y may lie with the number alone.
        self.assertEqual((kept[(1, 0, 0)], kept[(1, 0, 1)], kept[(1, 1)]), ((("x", 1),), (("y", 0),), (("0", 0), ("x", 1))))
        (wants,) = [one for one in told[3] if one[1][0] == "want"]
        self.assertEqual((wants[1][2], wants[2][0], told[2]), ((ask(0),), 0, 2))
        self.assertEqual(pairs[wants[2][1]][0], (1, 1))
        self.assertEqual(wants[3], wants[2][1])


class Machines(unittest.TestCase):
    """Machines whose slots are dealt out in other ways than made deals them out."""

    def case(self, *rows, params=(), slots=6):
        return Case(self, shared, rows, params, slots)

    def test_other_slots(self):
        self.case(sets("x"), tells("x", "a"), params=("a",)).told(
            (room(("go", 1), [puts(5)]), room(("give", 0), [("tell", ("+", S[5], S[0]))])), [((0,), [("a", 0)]), ((1,), [("a", 0), ("x", 5)])],
            (room(("go", 1), [puts(1)]), room(("give", 0), [("tell", ("+", S[1], S[0]))])), [((0,), [("a", 0)]), ((1,), [("a", 0), ("x", 1)])], 2,
        )

    def test_one_key_in_several_slots(self):
        rows = (sets("x"), tells("x"), sets("x", ("+", "x", 1)), tells("x"))
        self.case(*rows).told(
            (room(("go", 1), [puts(4), ("tell", S[4]), puts(2, ("+", S[4], 1))]), room(("give", 0), [("tell", S[2])])),
            [((0,), ()), ((3,), [("x", 2)])],
            (room(("go", 1), [puts(0), ("tell", S[0]), puts(0, ("+", S[0], 1))]), room(("give", 0), [("tell", S[0])])),
            [((0,), ()), ((3,), [("x", 0)])], 1,
        )

    def test_kept_are_just_those_needed(self):
        held = [("a", 0), ("b", 1), ("x", 3)]
        self.case(tells("b"), sets("x"), tells("x"), params=("a", "b")).told(
            (room(("go", 2), [("tell", S[1])]), END, room(("go", 3), [puts(3)]), room(("go", 1), [("tell", S[3])])),
            [((0,), held), ((3,), held), ((1,), held), ((2,), held)],
            (room(("go", 2), [("tell", S[1])]), END, room(("go", 3), [puts(0)]), room(("go", 1), [("tell", S[0])])),
            [((0,), [("b", 1)]), ((3,), ()), ((1,), ()), ((2,), [("x", 0)])], 2,
        )

    def test_places_stay_as_they_are_written(self):
        rows = (("if", 1, (), (T,)), tells("a"))
        for place in ((1,), (0, 0, 0), (0, 1, 1)):
            rooms = (room(("fork", 1, 1, 2)), room(("give", 0), [("tell", S[0])]), room(("go", 1), [T]))
            pairs = [((0,), [("a", 0)]), (place, [("a", 0)]), ((0, 1, 0), [("a", 0)])]
            self.case(*rows, params=("a",)).told(rooms, pairs, rooms, pairs, 1)

    def test_rooms_of_many_rows(self):
        rows = (("do", (sets("x"), ("do", (want(1, ask("y")), ("give", ("+", "x", "y"))), (tells("x"),))), ()),)
        do, done = lambda d: ("mark", "do", d), lambda d: ("mark", "done", d)
        undoing = lambda s, d, fall, off: room(("out", s), [("mark", "undo", d)] + ([("tell", S[5])] if d else []) + [("mark", "undone", d)], fall, off)
        old = (
            room(("want", 1, (ask(2),), 1), [do(0), puts(5), do(1)], (4, 2), 2),
            room(("give", ("+", S[5], S[2])), [done(1), done(0)]),
            undoing(4, 1, (3, 3), 3), undoing(3, 0, None, None),
        )
        program = (("main", (), rows),)
        pairs = (((0,), ()), ((0, 0, 1, 0, 1), (("x", 5), ("y", 2))), ((0, 0, 1, 1), (("1", 4), ("x", 5))), ((0, 1), (("0", 3),)))
        told = led(self, shared, program, (("main", 0, 6, old),), (pairs,))
        self.assertEqual(told, shared_by_steps(program, (("main", 0, 6, old),), (pairs,)))
        # "0" and "1" lie together, as the one is set where the other is through; x is needed with "1" and y.
        new = (
            room(("want", 1, (ask(0),), 1), [do(0), puts(1), do(1)], (0, 2), 2),
            room(("give", ("+", S[1], S[0])), [done(1), done(0)]),
            room(("out", 0), [("mark", "undo", 1), ("tell", S[1]), ("mark", "undone", 1)], (0, 3), 3),
            room(("out", 0), [("mark", "undo", 0), ("mark", "undone", 0)]),
        )
        self.assertEqual(told, (
            (("main", 0, 2, new),),
            ((((0,), ()), ((0, 0, 1, 0, 1), (("x", 1), ("y", 0))), ((0, 0, 1, 1), (("1", 0), ("x", 1))), ((0, 1), (("0", 0),))),),
        ))

    def test_a_go_ahead_of_marks(self):
        rows = (("do", (tells("a"), ("give", "a")), ()),)
        self.case(*rows, params=("a",)).told(
            (room(("go", 1), [("mark", "do", 0)]), room(("go", 2), [("tell", S[0])]), room(("give", S[0]), [("mark", "done", 0)])),
            [((0,), [("a", 0)]), ((0, 0, 0), [("a", 0)]), ((0, 0, 1), [("a", 0)])],
            (room(("go", 1), [("mark", "do", 0)]), room(("go", 2), [("tell", S[0])]), room(("give", S[0]), [("mark", "done", 0)])),
            [((0,), [("a", 0)]), ((0, 0, 0), [("a", 0)]), ((0, 0, 1), [("a", 0)])], 1,
        )

    def test_rooms_that_nothing_leads_to_are_told_too(self):
        rows = (sets("a"), ("give", 1), sets("b"), tells("a", "b"))
        rooms = lambda s, t: (
            room(("give", 1), [puts(s)]), room(("give", 0), [puts(t), ("tell", ("+", S[s], S[t]))]),
        )
        self.case(*rows).told(rooms(3, 2), [((0,), ()), ((2,), [("a", 3)])], rooms(0, 1), [((0,), ()), ((2,), [("a", 0)])], 2)
        # Without that room b stands nowhere.
        self.case(*rows).told(rooms(3, 2)[:1], [((0,), ())], rooms(0, 1)[:1], [((0,), ())], 1)

    def test_slots_that_are_there_for_what_nothing_reads(self):
        # A catch that is told a slot for a name that is not needed is told None.
        rows = (("try", (("fail", 7),), "x", (T,)),)
        self.case(*rows).told(
            (room(("fail", 7), fall=(4, 1)), room(("give", 0), [T])), [((0,), ()), ((0, 1, 0), [("x", 4)])],
            (room(("fail", 7), fall=(None, 1)), room(("give", 0), [T])), [((0,), ()), ((0, 1, 0), ())], 0,
        )

    def test_a_machine_that_would_have_more_slots(self):
        # a, set by the catch, gets the slot 0; b lies behind it, where this machine needs one slot alone.
        rows = (sets("b"), ("try", (("fail", 1),), "a", (tells("b"),)))
        rooms = lambda s: (room(("fail", 1), [puts(s)], (None, 1)), room(("give", 0), [("tell", S[s])]))
        pairs = lambda s: [((0,), ()), ((1, 1, 0), [("b", s)])]
        self.case(*rows, slots=1).same(rooms(0), pairs(0))
        self.case(*rows, slots=2).told(rooms(0), pairs(0), rooms(1), pairs(1))
        self.case(*rows, slots=3).told(rooms(0), pairs(0), rooms(1), pairs(1), 2)
        # Then kept pairs stay too, those that are not needed among them.
        more = [((0,), [("b", 0)]), ((1, 1, 0), [("b", 0)])]
        self.case(*rows, slots=1).same(rooms(0), more)

    def test_each_machine_by_itself(self):
        rows = (sets("b"), ("try", (("fail", 1),), "a", (tells("b"),)))
        rooms = lambda s: (room(("fail", 1), [puts(s)], (None, 1)), room(("give", 0), [("tell", S[s])]))
        pairs = lambda s: (((0,), ()), ((1, 1, 0), (("b", s),)))
        program = (("one", (), rows), ("two", (), rows), ("none", (), ()))
        told = led(
            self, shared, program, (("one", 0, 1, rooms(0)), ("two", 0, 5, rooms(0)), ("none", 0, 32, (END,))),
            (pairs(0), pairs(0), (((0,), ()),)),
        )
        self.assertEqual(told, (
            (("one", 0, 1, rooms(0)), ("two", 0, 2, rooms(1)), ("none", 0, 0, (END,))), (pairs(0), pairs(1), (((0,), ()),)),
        ))


class ByDice(unittest.TestCase):
    def test_made_and_other_makings(self):
        fewer = 0
        for seed in range(150):
            dice = random.Random(seed)
            program = ProgramDice(dice, lively=seed % 2 == 0).program()
            parts = made(program) if seed % 5 == 0 else other_making(dice, program)
            for one_pass in dice.sample((pruned, joined, merged), dice.randint(0, 2)):
                parts = one_pass(program, *parts)
            # As few slots as the rooms let it.
            if seed % 3 == 0:
                parts = (tuple(tight(machine, pairs) for machine, pairs in zip(*parts)), parts[1])
            told = led(self, shared, program, *parts)
            self.assertEqual(told, shared_by_steps(program, *parts))
            fewer += any(old[2] > new[2] for old, new in zip(parts[0], told[0]))
            some_run(self, dice, program, told[0], 8)
        self.assertGreater(fewer, 100)


def tight(machine, pairs):
    used = set(range(machine[1])) | {slot for _, kept in pairs for _, slot in kept}
    slots_of(machine[3], used)
    return machine[:2] + (max(used, default=-1) + 1, machine[3])


def slots_of(rooms, used):
    for rows, door, fall, _ in rooms:
        for row in rows:
            used |= {row[1]} if row[0] == "put" else set()
        used |= {door[1]} if door[0] == "out" else set()
        used |= {branch[0] for branch in door[2]} - {None} if door[0] == "want" else set()
        used |= {fall[0]} - {None} if fall is not None else set()
        leaves((rows, door), used)


def leaves(value, used):
    if isinstance(value, tuple):
        if value[:1] == ("slot",):
            used.add(value[1])
        else:
            for part in value:
                leaves(part, used)


if __name__ == "__main__":
    unittest.main()
