import copy
import random
import unittest

from errandroom.books import all_orders, book_holds
from errandroom.errors import ErrandError, NoErrand, TooMany
from errandroom.halls import bare, begun, result, run, waiting
from errandroom.making import made
from errandroom.shorter import shorter
from makings import machine
from samples import bad, good, plain
from test_halls import END, ask, call, gives, waits
from test_orders import BOTH, ONCE
from test_stories import TWICE, some_machines

S = [("slot", s) for s in range(4)]


def all_runs(machines, name, args, world, most):
    """Each bare with the runs that come to it and whether the world answers something there, order by order; None where
    there are more than so many."""
    found, waits = {}, [()]
    while waits:
        events = waits.pop()
        hall = run(machines, name, args, events)
        one = bare(hall)
        answers = [("answer", path, good, m) for path, who, n in waiting(hall) for w, k, good, m in world if (w, k) == (who, n)]
        if one not in found:
            found[one] = (events, bool(answers))
            waits += [events + (answer,) for answer in answers]
        if len(found) > most:
            return None
    return found


def racing(dice):
    """Machines whose result may hang on which answer comes first."""
    def want(*more):
        branches = tuple((dice.choice(("x", "y", None)), "ask", dice.choice(("sun", "moon")), dice.randrange(6)) for _ in range(3))
        return ("want", dice.randint(1, 3), branches[:dice.randint(3 - len(more), 3)] + more)
    main = [want(("x", "call", "sub", ()))] + [want() for _ in range(dice.randrange(2))]
    program = (("main", (), (("try", tuple(main), "y", ()), ("give", ("+", "x", "y")))), ("sub", (), (want(), ("give", "x"))))
    return shorter(program, *made(program))[0]


class Books(unittest.TestCase):
    def told(self, machines, world, most=60, name="main", args=()):
        before = copy.deepcopy((machines, world))
        told = all_orders(machines, name, args, world, most)
        self.assertEqual(all_orders(machines, name, args, world, most), told)
        self.assertTrue(plain(told))
        runs = all_runs(machines, name, args, world, most)
        results = {result(one) for one, (_, on) in runs.items() if not on}
        if len(results) == 1:
            self.assertEqual(told, ("one", results.pop(), tuple(sorted(runs))))
            self.check_book(machines, world, told, name, args)
        else:
            self.check_two(machines, world, told, name, args)
        self.assertEqual((machines, world), before)
        return told

    def check_book(self, machines, world, told, name, args):
        _, value, book = told
        self.assertIn(bare(begun(machines, name, args)), book)
        self.assertEqual(book, tuple(sorted(set(book))))
        before = copy.deepcopy((machines, world, told))
        self.assertIs(book_holds(machines, name, args, world, value, book), True)
        # Each is come to from some other one, so none may lack.
        for at in range(len(book)):
            self.assertIs(book_holds(machines, name, args, world, value, book[:at] + book[at + 1:]), False)
        for other in (None, ("good", 77), ("bad", 0), ("off", 0), ("good", 0)):
            self.assertIs(book_holds(machines, name, args, world, other, book), other == value)
        self.assertEqual((machines, world, told), before)

    def check_two(self, machines, world, told, name, args):
        """Both runs are by the world's answers to what waits, to halls that nothing leads on from, with unlike results."""
        self.assertEqual((told[0], len(told)), ("two", 3))
        ends = []
        for events in told[1:]:
            for at, event in enumerate(events):
                hall = run(machines, name, args, events[:at])
                self.assertIn(event, [("answer", path, g, m) for path, who, n in waiting(hall) for w, k, g, m in world if (w, k) == (who, n)])
            hall = run(machines, name, args, events)
            self.assertFalse([one for one in waiting(hall) if one[1:] in [row[:2] for row in world]])
            ends.append(result(hall))
        self.assertNotEqual(*ends)

    def test_nothing_is_asked(self):
        machines = (machine(gives(5)),)
        self.assertEqual(self.told(machines, ()), ("one", ("good", 5), (begun(machines, "main", ()),)))
        self.assertEqual(self.told(machines, (("sun", 1, True, 2),))[1], ("good", 5))

    def test_one_answer(self):
        machines = (machine(waits(ask(0), fall=(1, 2)), gives(S[0]), gives(("+", S[1], 100))),)
        first = bare(begun(machines, "main", ()))
        for g, m, value in ((True, 8, ("good", 8)), (False, 8, ("good", 108))):
            told = self.told(machines, (("sun", 1, g, m),))
            last = bare(run(machines, "main", (), (("answer", (0, 0), g, m),)))
            self.assertEqual(told, ("one", value, tuple(sorted((first, last)))))

    def test_asks_that_the_world_never_answers(self):
        machines = (machine(waits(ask(0, n=3), ask(1, who="moon", n=4), least=2), gives(("+", S[0], S[1]))),)
        # Another who, another number: nothing comes.
        for world in ((), (("moon", 3, True, 1),), (("sun", 4, True, 1),), (("moon", 3, True, 1), ("sun", 4, False, 1))):
            self.assertEqual(self.told(machines, world), ("one", None, (begun(machines, "main", ()),)))
        told = self.told(machines, (("sun", 3, True, 1),))
        self.assertEqual((told[1], len(told[2])), (None, 2))
        told = self.told(machines, (("moon", 4, True, 6), ("sun", 3, True, 1)))
        self.assertEqual((told[1], len(told[2])), (("good", 7), 4))
        told = self.told(machines, (("moon", 4, False, 6), ("sun", 3, True, 1)))
        self.assertEqual(told[1], ("bad", 6))

    def test_one_result_by_whatever_order(self):
        machines = (machine(waits(call("once", slot=0), call("both", slot=1), least=2), gives(("+", S[0], S[1]))), ONCE, BOTH)
        told = self.told(machines, (("sun", 1, True, 4),))
        # Of three asks each may be answered or not; each such state is one bare.
        self.assertEqual((told[1], len(told[2])), (("good", 12), 8))

    def test_what_is_asked_later_is_answered_too(self):
        machines = (machine(waits(ask(0, n=1)), waits(ask(0, n=("+", S[0], 1)), to=2), gives(S[0])),)
        told = self.told(machines, (("sun", 1, True, 5), ("sun", 6, True, 9)))
        self.assertEqual((told[1], len(told[2])), (("good", 9), 3))
        told = self.told(machines, (("sun", 1, True, 5),))
        self.assertEqual((told[1], len(told[2])), (None, 2))

    def test_unlike_results(self):
        machines = (machine(waits(ask(0, n=1), ask(0, n=2)), gives(S[0])),)
        told = self.told(machines, (("sun", 1, True, 5), ("sun", 2, True, 6)))
        self.assertEqual({told[1], told[2]}, {(good((0, 0), 5),), (good((0, 1), 6),)})
        # Both answer the same, so it is all one.
        self.assertEqual(self.told(machines, (("sun", 1, True, 5), ("sun", 2, True, 5)))[:2], ("one", ("good", 5)))
        # One misses, one reaches.
        told = self.told(machines, (("sun", 1, False, 5), ("sun", 2, True, 6)))
        self.assertEqual(told[:2], ("one", ("good", 6)))
        machines = (machine(waits(ask(0, n=1), ask(0, n=2), ask(0, n=3), least=2, fall=(1, 1)), gives(S[0])),)
        self.assertEqual(self.told(machines, (("sun", 1, True, 5), ("sun", 2, True, 6), ("sun", 3, True, 7)))[0], "two")

    def test_a_result_beside_none(self):
        # By one order it ends, by the other it waits for what is never answered.
        machines = (machine(waits(ask(0, n=1), ask(0, n=2)), waits(ask(1, n=("+", S[0], 10)), to=2), END),)
        told = self.told(machines, (("sun", 1, True, 5), ("sun", 2, True, 6), ("sun", 15, True, 0)))
        self.assertEqual(told[0], "two")
        told = self.told(machines, (("sun", 1, True, 5), ("sun", 2, True, 6)))
        self.assertEqual(told[:2], ("one", None))

    def test_as_many_bares_as_told(self):
        one = (machine(waits(call("once", slot=0), call("both", slot=1), least=2), gives(("+", S[0], S[1]))), ONCE, BOTH)
        two = (machine(waits(ask(0, n=1), ask(0, n=2)), gives(S[0])),)
        for machines, world, many in (
            (one, (("sun", 1, True, 4),), 8), (two, (("sun", 1, True, 5), ("sun", 2, True, 6)), 3), ((machine(END),), (), 1),
            (one, (), 1), (two, (("sun", 1, True, 5),), 2),
        ):
            self.assertEqual(self.told(machines, world, many), self.told(machines, world))
            for fewer in range(many):
                for kind in (TooMany, ErrandError, ValueError):
                    with self.assertRaises(kind):
                        all_orders(machines, "main", (), world, fewer)
                with self.assertRaises(ErrandError) as caught:
                    all_orders(machines, "main", (), world, fewer)
                self.assertIs(type(caught.exception), TooMany)

    def test_sixty_and_one_more(self):
        # Of five asks each may be answered or not, and by a sixth one twice as many.
        asks = lambda count: tuple(ask(n=n) for n in range(count))
        deep = machine(waits(*asks(3), least=3), END, name="deep")
        machines = (machine(waits(call("deep"), *asks(2), least=3), END), deep)
        world = tuple(("sun", n, True, 0) for n in range(4))
        self.assertEqual(len(self.told(machines, world, 32)[2]), 32)
        machines = (machine(waits(call("deep"), *asks(3), least=4), END), deep)
        with self.assertRaises(TooMany):
            all_orders(machines, "main", (), world, 60)
        with self.assertRaises(TooMany):
            all_orders(machines, "main", (), world, 63)
        self.assertEqual(len(self.told(machines, world, 64)[2]), 64)

    def test_no_errand(self):
        machines = (machine(waits(), END), TWICE)
        for name, args in (("none", ()), ("main", (1,)), ("twice", ()), ("twice", (1, 2))):
            for ask_of in (lambda: all_orders(machines, name, args, (), 1), lambda: book_holds(machines, name, args, (), None, ())):
                for kind in (NoErrand, ErrandError, ValueError):
                    with self.assertRaises(kind):
                        ask_of()
                with self.assertRaises(ErrandError) as caught:
                    ask_of()
                self.assertIs(type(caught.exception), NoErrand)

    def test_numbers_that_are_handed_in(self):
        told = self.told((TWICE,), (), name="twice", args=(4,))
        self.assertEqual(told[1], ("good", 8))

    def test_by_dice(self):
        kinds = {"one": 0, "two": 0, "many": 0}
        for seed in range(300):
            dice = random.Random(seed)
            machines = some_machines(dice, seed) if seed % 3 else racing(dice)
            name, args = machines[0][0], tuple(dice.choice((0, 1, 2, 5)) for _ in range(machines[0][1]))
            world = tuple(sorted(
                (who, n, dice.random() < 0.7, dice.choice((0, 1, 2, 7))) for who in ("moon", "sun", "ask") for n in range(12) if dice.random() < 0.5
            ))
            most = dice.choice((5, 20, 60))
            if all_runs(machines, name, args, world, most) is None:
                with self.assertRaises(TooMany):
                    all_orders(machines, name, args, world, most)
                kinds["many"] += 1
            else:
                told = self.told(machines, world, most, name, args)
                kinds[told[0]] += told[0] == "two" or len(told[2]) > 1
        self.assertGreater(min(kinds.values()), 5, kinds)


class Holds(unittest.TestCase):
    MACHINES = (machine(waits(ask(0, n=1), ask(1, n=2), least=2, fall=(2, 1)), gives(("+", S[0], S[1]))),)
    WORLD = (("sun", 1, True, 5), ("sun", 2, True, 6))

    def bares(self, *rows):
        return tuple(sorted(bare(run(self.MACHINES, "main", (), events)) for events in rows))

    def holds(self, told, book, world=WORLD):
        before = copy.deepcopy(book)
        value = book_holds(self.MACHINES, "main", (), world, told, book)
        self.assertIs(book_holds(self.MACHINES, "main", (), world, told, book), value)
        self.assertEqual(book, before)
        return value

    A, B = good((0, 0), 5), good((0, 1), 6)

    def test_the_whole_book(self):
        book = self.bares((), (self.A,), (self.B,), (self.A, self.B))
        self.assertIs(self.holds(("good", 11), book), True)
        self.assertEqual(all_orders(self.MACHINES, "main", (), self.WORLD, 60), ("one", ("good", 11), book))

    def test_a_bare_too_few(self):
        rows = [(), (self.A,), (self.B,), (self.A, self.B)]
        for at in range(4):
            self.assertIs(self.holds(("good", 11), self.bares(*rows[:at], *rows[at + 1:])), False)
        self.assertIs(self.holds(("good", 11), ()), False)
        self.assertIs(self.holds(None, ()), False)

    def test_one_too_many(self):
        rows = [(), (self.A,), (self.B,), (self.A, self.B)]
        # That leads nowhere and has the result it holds still; with another result, or with next ones that lack, it does not.
        other = good((0, 0), 6)
        self.assertIs(self.holds(("good", 11), self.bares(*rows, (other, good((0, 1), 5)))), True)
        self.assertIs(self.holds(("good", 11), self.bares(*rows, (other, self.B))), False)
        self.assertIs(self.holds(("good", 11), self.bares(*rows, (other,))), False)
        self.assertIs(self.holds(("good", 11), self.bares(*rows, (other,), (other, self.B))), False)
        self.assertIs(self.holds(("good", 11), self.bares(*rows, (bad((0, 0), 11),))), False)
        # By a world that answers otherwise all of it is another book's.
        self.assertIs(self.holds(("good", 12), self.bares((), (other,), (self.B,), (other, self.B)), (("sun", 1, True, 6), ("sun", 2, True, 6))), True)

    def test_another_result(self):
        book = self.bares((), (self.A,), (self.B,), (self.A, self.B))
        for told in (None, ("good", 10), ("bad", 11), ("off", 0), ("good", 0)):
            self.assertIs(self.holds(told, book), False)

    def test_without_the_one_that_is_begun(self):
        self.assertIs(self.holds(("good", 11), self.bares((self.A,), (self.B,), (self.A, self.B))), False)
        self.assertIs(self.holds(("good", 11), self.bares((self.A, self.B))), False)

    def test_worlds_that_answer_less(self):
        self.assertIs(self.holds(None, self.bares(()), ()), True)
        self.assertIs(self.holds(None, self.bares(()), self.WORLD[:1]), False)
        self.assertIs(self.holds(None, self.bares((), (self.A,)), self.WORLD[:1]), True)
        self.assertIs(self.holds(None, self.bares((), (self.A,), (self.B,)), self.WORLD[:1]), False)

    def test_of_a_program(self):
        want = ("want", 2, (("x", "call", "sub", (3,)), ("y", "call", "sub", (4,))))
        program = (
            ("main", (), (want, ("give", ("+", "x", "y")))),
            ("sub", ("p",), (("do", (("want", 1, (("q", "ask", "sun", "p"),)),), (("want", 1, ((None, "ask", "moon", "p"),)),)), ("give", "q"))),
        )
        machines = shorter(program, *made(program))[0]
        told = all_orders(machines, "main", (), (("sun", 3, True, 30), ("sun", 4, True, 40)), 60)
        self.assertEqual((told[1], len(told[2])), (("good", 70), 4))
        # One says no: the other one is called off, and undoes, or has come already.
        told = all_orders(machines, "main", (), (("moon", 3, True, 0), ("moon", 4, True, 0), ("sun", 3, False, 9), ("sun", 4, True, 40)), 60)
        self.assertEqual(told[:2], ("one", ("bad", 9)))
        told = all_orders(machines, "main", (), (("moon", 3, True, 0), ("sun", 3, False, 9), ("sun", 4, True, 40)), 60)
        self.assertEqual(told[0], "two")


if __name__ == "__main__":
    unittest.main()
