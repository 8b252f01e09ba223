import copy
import random
import unittest

from errandroom.errors import ErrandError, NoErrand
from errandroom.hours import is_event, meant
from errandroom.programs import is_program
from oracle import OracleRun
from samples import OFF, OTHERS, TOP, WHOLE, ProgramDice, Strange, bad, good, plain, program, some_event


def ask(x=None, who="sun", n=1):
    return (x, "ask", who, n)


def call(name, *ones, x=None):
    return (x, "call", name, tuple(ones))


def want(least, *branches):
    return ("want", least, tuple(branches))


def tell(n):
    return ("tell", n)


def do(first, undoing):
    return ("do", tuple(first), tuple(undoing))


class Runs(unittest.TestCase):
    def run_of(self, value, *events, name="main", args=()):
        self.assertTrue(is_program(value))
        for event in events:
            self.assertTrue(is_event(event))
        before = copy.deepcopy((value, args, events))
        told = meant(value, name, args, events)
        self.assertEqual(meant(value, name, args, events), told)
        self.assertEqual((value, args, events), before)
        self.assertEqual(OracleRun(value, name, args, events).told(), told)
        return told

    def ends(self, value, *events, args=()):
        """The ends of all houses and asks by their paths."""
        houses, asks = self.run_of(value, *events, args=args)
        found = {one[0]: one[3] for one in houses}
        self.assertEqual(set(found) & {one[0] for one in asks}, set())
        found.update({one[0]: one[4] for one in asks})
        self.assertEqual(len(found), len(houses) + len(asks))
        return found

    def diary(self, value, *events, path=(), args=()):
        return [one[4] for one in self.run_of(value, *events, args=args)[0] if one[0] == path][0]

    def end(self, value, *events, args=()):
        return self.ends(value, *events, args=args)[()]


class Events(unittest.TestCase):
    def test_right_ones(self):
        for event in (
            OFF, good(()), bad(()), good((0, 0), TOP), bad((9, 9, 9, 9, 9, 9), 1), good((1,)), good((1, 2, 3)), good((0, 3), 0),
        ):
            self.assertIs(is_event(event), True)
            self.assertIs(is_event(event), True)

    def test_other_things(self):
        for value in OTHERS + (WHOLE, ["off"], ("off", None), ("off", 1), ("Off",), ("",), ("answer",), (OFF,)):
            self.assertIs(is_event(value), False)
            self.assertIs(is_event((value,)), False)
            self.assertIs(is_event((value, (0, 1), True, 1)), False)
            if not isinstance(value, tuple):
                self.assertIs(is_event(("answer", value, True, 1)), False)
            if type(value) is not int:
                self.assertIs(is_event(("answer", (value,), True, 1)), False)
                self.assertIs(is_event(("answer", (0, 1), True, value)), False)
            if type(value) is not bool:
                self.assertIs(is_event(("answer", (0, 1), value, 1)), False)
        self.assertIs(is_event("off"), False)

    def test_kinds_and_counts(self):
        right = good((0, 1), 5)
        for wrong in (list(right), right[:3], right + (1,), ("answers",) + right[1:], ("off",) + right[1:], right[1:]):
            self.assertIs(is_event(wrong), False)
        for truth in (1, 0, None, "True", "good"):
            self.assertIs(is_event(("answer", (0, 1), truth, 1)), False)

    def test_paths(self):
        for path in ((0,) * 7, (10,), (-1,), (0, 10), (0, -1), (True,), (0, False), ("0",), (None,), [0, 1], "01", None, 1, ((0,),)):
            self.assertIs(is_event(("answer", path, True, 1)), False)
        for count in range(7):
            self.assertIs(is_event(good((9,) * count)), True)
            self.assertIs(is_event(good((0,) * count)), True)

    def test_numbers(self):
        for n in (0, 1, TOP):
            self.assertIs(is_event(bad((0, 0), n)), True)
        for n in (-1, TOP + 1, True, False, None, "1", (1,), 10**30, Strange()):
            self.assertIs(is_event(bad((0, 0), n)), False)


class Begun(Runs):
    def test_no_errand(self):
        for name, args in (
            ("x", ()), ("", ()), ("a", (1, 2)), ("main", ()), ("main", (1,)), ("main", (1, 2, 3)), ("none", (0,)), ("sub", ()), ("mai", (1, 2)),
        ):
            for refusal in (NoErrand, ErrandError, ValueError):
                with self.assertRaises(refusal) as caught:
                    meant(WHOLE, name, args, ())
                self.assertIs(type(caught.exception), NoErrand)
                with self.assertRaises(refusal):
                    meant(WHOLE, name, args, (OFF, good((0, 0))))

    def test_at_once_through(self):
        self.assertEqual(self.run_of(program()), ((((), "main", 0, ("good", 0, 0), ()),), ()))
        self.assertEqual(self.run_of(program(tell(5))), ((((), "main", 0, ("good", 0, 0), ((0, "tell", 5),)),), ()))

    def test_whichever_errand_is_named(self):
        self.assertEqual(self.run_of(WHOLE, name="none"), ((((), "none", 0, ("good", 0, 0), ()),), ()))
        self.assertEqual(self.run_of(WHOLE, name="sub", args=(3, 4)), ((((), "sub", 0, ("good", 7, 0), ()),), ()))

    def test_params_and_other_names(self):
        value = (("main", ("a", "b", "c"), (tell("a"), tell("b"), tell("c"), tell("x"))),)
        told = ((0, "tell", 7), (0, "tell", TOP), (0, "tell", 9), (0, "tell", 0))
        self.assertEqual(self.diary(value, args=(7, TOP, 9)), told)

    def test_each_house_has_its_own_names(self):
        value = (
            ("main", ("x",), (want(2, call("sub", 5), call("sub", ("+", "x", 1))), tell("x"))),
            ("sub", ("y",), (tell("x"), tell("y"), ("set", "x", 99), tell("x"))),
        )
        self.assertEqual(self.diary(value, args=(3,)), ((0, "tell", 3),))
        self.assertEqual(self.diary(value, args=(3,), path=(0, 0)), ((0, "tell", 0), (0, "tell", 5), (0, "tell", 99)))
        self.assertEqual(self.diary(value, args=(3,), path=(0, 1)), ((0, "tell", 0), (0, "tell", 4), (0, "tell", 99)))

    def test_hours_of_late_events_go_by(self):
        value = program(want(1, ask("x")), tell("x"))
        self.assertEqual(self.diary(value, good((0, 1)), good((1, 0)), bad(()), good((0, 0), 8)), ((4, "tell", 8),))

    def test_very_many_events(self):
        value = program(want(1, ask("x")), tell("x"))
        late = [good((0, 1))] * 149
        self.assertEqual(self.end(value, *late, good((0, 0), 8)), ("good", 0, 150))
        self.assertEqual(self.end(value, *late), ())


class Rows(Runs):
    def test_set_and_tell(self):
        value = program(tell("a"), ("set", "a", 5), tell("a"), ("set", "a", ("*", "a", "a")), tell(("-", "a", 26)))
        self.assertEqual(self.diary(value), ((0, "tell", 0), (0, "tell", 5), (0, "tell", TOP)))

    def test_if(self):
        value = (("main", ("a",), (("if", "a", (tell(1),), (tell(2),)), tell(3))),)
        self.assertEqual(self.diary(value, args=(0,)), ((0, "tell", 2), (0, "tell", 3)))
        for n in (1, 2, TOP):
            self.assertEqual(self.diary(value, args=(n,)), ((0, "tell", 1), (0, "tell", 3)))

    def test_give(self):
        self.assertEqual(self.end(program(("give", 7), ("fail", 1))), ("good", 7, 0))
        self.assertEqual(self.end(program(("try", (("give", 7),), "x", (("give", 1),)), ("give", 2))), ("good", 7, 0))
        self.assertEqual(self.end(program(("while", 1, (("give", "x"),)))), ("good", 0, 0))

    def test_fail(self):
        self.assertEqual(self.end(program(("fail", 7), ("give", 1))), ("bad", 7, 0))
        self.assertEqual(self.end(program(("if", 1, (("while", 1, (("fail", 0),)),), ()))), ("bad", 0, 0))

    def test_while(self):
        value = (("main", ("a",), (("while", ("<", 0, "a"), (tell("a"), ("set", "a", ("-", "a", 1)))), tell(9))),)
        self.assertEqual(self.diary(value, args=(0,)), ((0, "tell", 9),))
        self.assertEqual(self.diary(value, args=(2,)), ((0, "tell", 2), (0, "tell", 1), (0, "tell", 9)))

    def test_sixteen_rounds(self):
        value = (("main", ("a",), (("while", ("<", "x", "a"), (("set", "x", ("+", "x", 1)), tell("x"))), ("give", "x"))),)
        self.assertEqual(self.end(value, args=(15,)), ("good", 15, 0))
        self.assertEqual(self.end(value, args=(16,)), ("good", 16, 0))
        self.assertEqual(self.end(value, args=(17,)), ("bad", 1, 0))
        self.assertEqual(self.diary(value, args=(17,)), tuple((0, "tell", n) for n in range(1, 17)))

    def test_rounds_of_all_whiles_count_together(self):
        loop = lambda name, most: ("while", ("<", name, most), (("set", name, ("+", name, 1)),))
        for first, second, told in ((10, 6, ("good", 0, 0)), (10, 7, ("bad", 1, 0)), (16, 0, ("good", 0, 0)), (16, 1, ("bad", 1, 0))):
            self.assertEqual(self.end(program(loop("x", first), loop("y", second))), told)
        inner = ("while", ("<", "x", 5), (("set", "x", ("+", "x", 1)), ("set", "y", 0), loop("y", 2)))
        self.assertEqual(self.end(program(inner)), ("good", 0, 0))
        self.assertEqual(self.end(program(inner, ("set", "y", 0), loop("y", 1))), ("good", 0, 0))
        self.assertEqual(self.end(program(inner, ("set", "y", 0), loop("y", 2))), ("bad", 1, 0))

    def test_fault_in_the_place_of_each_further_round(self):
        loop = ("while", 1, ())
        again = ("try", (loop,), "x", (tell("x"), ("set", "x", 0)))
        self.assertEqual(self.diary(program(again, again, again)), ((0, "tell", 1),) * 3)
        self.assertEqual(self.end(program(("try", (loop,), None, ()), ("while", 0, ()), ("give", 4))), ("good", 4, 0))

    def test_the_fault_of_rounds_stands_outside_of_the_round(self):
        value = program(("while", 1, (("try", (tell(1),), None, (tell(2),)),)))
        self.assertEqual(self.diary(value), ((0, "tell", 1),) * 16)
        self.assertEqual(self.end(value), ("bad", 1, 0))

    def test_each_house_has_rounds_and_wants_of_its_own(self):
        rounds = ("while", ("<", "x", 16), (("set", "x", ("+", "x", 1)),))
        value = (("main", (), (rounds, want(2, call("sub"), call("sub")))), ("sub", (), (rounds, ("give", "x"))))
        self.assertEqual(self.ends(value), {(): ("good", 0, 0), (0, 0): ("good", 16, 0), (0, 1): ("good", 16, 0)})


class Wants(Runs):
    def test_asks_are_sent(self):
        value = program(("set", "x", 4), want(2, ask(who="sun", n=("+", "x", 1)), ask(who="moon", n=0), ask(who="sea", n=TOP)))
        asks = (((0, 0), "sun", 5, 0, ()), ((0, 1), "moon", 0, 0, ()), ((0, 2), "sea", TOP, 0, ()))
        self.assertEqual(self.run_of(value), ((((), "main", 0, (), ()),), asks))

    def test_paths_and_hours_of_later_wants(self):
        value = program(want(1, ask()), want(1, ask(), ask("x")), tell("x"))
        houses, asks = self.run_of(value, good((0, 0), 6), bad((1, 0), 3), good((1, 1), 7))
        self.assertEqual(houses, (((), "main", 0, ("good", 0, 3), ((3, "tell", 7),)),))
        self.assertEqual(asks, (
            ((0, 0), "sun", 1, 0, ("good", 6, 1)), ((1, 0), "sun", 1, 1, ("bad", 3, 2)), ((1, 1), "sun", 1, 1, ("good", 7, 3)),
        ))

    def test_paths_within_houses(self):
        value = (("main", (), (want(1, ask(), call("sub")),)), ("sub", (), (want(1, ask()), want(1, ask(), call("main")))))
        ends = self.ends(value, good((0, 1, 0, 0)))
        self.assertEqual(sorted(ends), [
            (), (0, 0), (0, 1), (0, 1, 0, 0), (0, 1, 1, 0), (0, 1, 1, 1), (0, 1, 1, 1, 0, 0),
        ])
        # The call that finds no house ends bad at once, but the want beside it still waits.
        houses, asks = self.run_of(value, good((0, 1, 0, 0)))
        self.assertEqual([(one[0], one[1], one[2]) for one in houses], [((), "main", 0), ((0, 1), "sub", 0), ((0, 1, 1, 1), "main", 1)])
        self.assertEqual([one[3] for one in asks], [0, 0, 1, 1])

    def test_a_call_from_a_path_of_four_numbers(self):
        value = (("main", (), (want(1, call("main")),)),)
        self.assertEqual(self.ends(value), {(): ("bad", 2, 0), (0, 0): ("bad", 2, 0), (0, 0, 0, 0): ("bad", 2, 0)})
        value = (("main", (), (("try", (want(1, call("main")),), "x", (tell("x"), ("fail", ("+", "x", 10)))),)),)
        self.assertEqual(self.ends(value), {(): ("bad", 32, 0), (0, 0): ("bad", 22, 0), (0, 0, 0, 0): ("bad", 12, 0)})

    def test_beside_a_call_that_finds_no_house(self):
        value = (("main", (), (want(1, call("main"), ask("x")), ("give", "x"))),)
        ends = self.ends(value, good((0, 0, 0, 0, 0, 1), 5))
        self.assertEqual(ends[(0, 0, 0, 0)], ("good", 5, 1))
        self.assertEqual(ends[(0, 0, 0, 1)], ("off", 0, 1))
        # What came well there named no x.
        self.assertEqual((ends[(0, 0)], ends[()]), (("good", 0, 1), ("good", 0, 1)))
        value = (("main", (), (want(2, call("main"), ask("x")), ("give", "x"))),)
        ends = self.ends(value)
        self.assertEqual(ends[(0, 0, 0, 0)], ("bad", 2, 0))
        self.assertEqual(ends[(0, 0, 0, 0, 0, 1)], ("off", 0, 0))
        self.assertEqual(ends[()], ("bad", 2, 0))

    def test_five_wants(self):
        five = [want(1, ask("x"))] * 5
        answers = [good((t, 0), t + 1) for t in range(5)]
        self.assertEqual(self.end(program(*five, ("give", "x")), *answers), ("good", 5, 5))
        self.assertEqual(self.end(program(*five, want(1, ask("x"))), *answers), ("bad", 3, 5))
        self.assertEqual(self.end(program(*five, ("try", (want(1, ask("x")),), "y", (("give", "y"),))), *answers), ("good", 3, 5))
        ends = self.ends(program(*five, want(1, ask("x"))), *answers)
        self.assertEqual(sorted(ends), [()] + [(t, 0) for t in range(5)])

    def test_fault_in_the_place_of_each_further_want(self):
        value = program(("while", 1, (("try", (want(1, call("sub")),), "x", (tell("x"),)),))) + (("sub", (), ()),)
        self.assertEqual(self.diary(value), ((0, "tell", 3),) * 11)
        self.assertEqual(len(self.ends(value)), 6)

    def test_wants_that_are_missed_count_too(self):
        missed = ("try", (want(1, call("sub")),), "x", ())
        value = program(*[missed] * 6, tell("x")) + (("sub", (), (("fail", 8),)),)
        self.assertEqual(self.diary(value), ((0, "tell", 3),))

    def test_reached_at_once(self):
        value = (("main", (), (want(1, ask("x"), call("sub", 4, x="y")), ("give", ("+", "x", "y")))), ("sub", ("a",), (("give", "a"),)))
        self.assertEqual(self.ends(value), {(): ("good", 4, 0), (0, 0): ("off", 0, 0), (0, 1): ("good", 4, 0)})

    def test_missed_at_once(self):
        value = (("main", (), (want(2, ask("x"), call("sub", 4, x="y")),)), ("sub", ("a",), (("fail", "a"),)))
        self.assertEqual(self.ends(value), {(): ("bad", 4, 0), (0, 0): ("off", 0, 0), (0, 1): ("bad", 4, 0)})

    def test_reached_by_as_many_as_wanted(self):
        value = program(want(2, ask("x"), ask("y"), ask("z")), ("give", ("+", ("+", "x", "y"), "z")))
        self.assertEqual(self.end(value, good((0, 2), 5)), ())
        self.assertEqual(self.ends(value, good((0, 2), 5), good((0, 0), 7)), {
            (): ("good", 12, 2), (0, 0): ("good", 7, 2), (0, 1): ("off", 0, 2), (0, 2): ("good", 5, 1),
        })
        self.assertEqual(self.ends(value, bad((0, 1), 1), good((0, 2), 5), good((0, 0), 7))[()], ("good", 12, 3))

    def test_missed_when_so_many_never_can(self):
        value = program(want(2, ask("x"), ask("y"), ask("z")))
        self.assertEqual(self.end(value, bad((0, 2), 5)), ())
        self.assertEqual(self.ends(value, bad((0, 2), 5), bad((0, 0), 7)), {
            (): ("bad", 7, 2), (0, 0): ("bad", 7, 2), (0, 1): ("off", 0, 2), (0, 2): ("bad", 5, 1),
        })
        self.assertEqual(self.end(value, bad((0, 2), 5), good((0, 0), 7)), ())
        self.assertEqual(self.end(value, bad((0, 2), 5), good((0, 0), 7), bad((0, 1), 8)), ("bad", 8, 3))

    def test_every_count_and_row_of_answers(self):
        for count in range(1, 5):
            for least in range(1, count + 1):
                for goods in range(2 ** count):
                    value = program(want(least, *[ask()] * count))
                    answers = [("answer", (0, b), bool(goods >> b & 1), 10 + b) for b in range(count)]
                    told = self.end(value, *answers)
                    came = [event[2] for event in answers]
                    for hour in range(1, count + 1):
                        if came[:hour].count(True) == least:
                            self.assertEqual(told, ("good", 0, hour))
                            break
                        if came[:hour].count(False) == count - least + 1:
                            self.assertEqual(told, ("bad", 10 + came.index(False), hour))
                            break

    def test_the_first_bad_in_their_order(self):
        value = program(want(3, ask(), ask(), ask(), ask()))
        self.assertEqual(self.end(value, bad((0, 3), 30), bad((0, 1), 10)), ("bad", 10, 2))
        self.assertEqual(self.end(value, bad((0, 1), 10), bad((0, 3), 30)), ("bad", 10, 2))
        self.assertEqual(self.end(value, good((0, 0), 1), bad((0, 3), 0), bad((0, 2), 20)), ("bad", 20, 3))

    def test_names_are_set_in_order(self):
        value = program(("set", "x", 1), want(3, ask("x"), ask("x"), ask("x")), ("give", "x"))
        self.assertEqual(self.end(value, good((0, 2), 30), good((0, 1), 20), good((0, 0), 10)), ("good", 30, 3))
        value = program(("set", "x", 1), want(2, ask("x"), ask("x"), ask("x")), ("give", "x"))
        self.assertEqual(self.end(value, good((0, 1), 20), good((0, 0), 10)), ("good", 20, 2))
        self.assertEqual(self.end(value, bad((0, 2), 30), good((0, 1), 20), good((0, 0), 10)), ("good", 20, 3))

    def test_names_of_what_ended_bad_or_off_stay(self):
        value = program(("set", "x", 1), ("set", "y", 2), want(1, ask("x"), ask("y"), ask("z")), tell("x"), tell("y"), tell("z"))
        told = self.diary(value, bad((0, 0), 50), good((0, 2), 60))
        self.assertEqual(told, ((2, "tell", 1), (2, "tell", 2), (2, "tell", 60)))

    def test_a_missed_want_sets_nothing(self):
        value = program(("set", "x", 1), ("try", (want(2, ask("x"), ask("y")),), "y", ()), tell("x"), tell("y"))
        self.assertEqual(self.diary(value, good((0, 0), 50), bad((0, 1), 60)), ((2, "tell", 1), (2, "tell", 60)))

    def test_more_than_so_many_good_in_one_hour(self):
        value = (
            ("main", (), (want(1, call("sub", 3, x="x"), call("sub", 4, x="y"), ask("z")), ("give", ("+", ("*", "x", 100), "y")))),
            ("sub", ("a",), (("give", "a"),)),
        )
        self.assertEqual(self.ends(value), {
            (): ("good", 304, 0), (0, 0): ("good", 3, 0), (0, 1): ("good", 4, 0), (0, 2): ("off", 0, 0),
        })

    def test_good_ones_are_looked_at_behind_the_bad_ones_of_the_hour(self):
        value = (
            ("main", (), (want(1, call("fails"), call("gives", x="x")), ("give", "x"))),
            ("fails", (), (("fail", 1),)), ("gives", (), (("give", 6),)),
        )
        self.assertEqual(self.end(value), ("good", 6, 0))

    def test_decided_behind_all_that_the_hour_does_within(self):
        # The answer ends the inner house, which ends the outer one, all in one hour.
        value = (
            ("main", (), (want(1, call("mid", x="x"), ask("y")), ("give", "x"))),
            ("mid", (), (want(1, call("low", x="x"), ask()), ("give", ("+", "x", 1)))),
            ("low", (), (want(1, ask("x")), ("give", ("+", "x", 1)))),
        )
        self.assertEqual(self.ends(value, good((0, 0, 0, 0, 0, 0), 5)), {
            (): ("good", 7, 1), (0, 0): ("good", 7, 1), (0, 1): ("off", 0, 1), (0, 0, 0, 0): ("good", 6, 1), (0, 0, 0, 1): ("off", 0, 1),
            (0, 0, 0, 0, 0, 0): ("good", 5, 1),
        })

    def test_an_ask_is_answered_once(self):
        value = program(want(2, ask("x"), ask("y")), ("give", "x"))
        self.assertEqual(self.end(value, good((0, 0), 5), good((0, 0), 6), bad((0, 0), 7), good((0, 1))), ("good", 5, 4))

    def test_an_answer_to_what_does_not_wait(self):
        value = program(want(1, ask("x"), ask("y")), want(1, ask("z")), ("give", ("+", ("+", "x", "y"), "z")))
        early = good((1, 0), 9)
        self.assertEqual(self.end(value, early, good((0, 1), 5), bad((0, 0), 3), good((0, 0), 4), early), ("good", 14, 5))
        ends = self.ends(value, good((0, 1), 5), good((0, 0), 4), good((1, 0), 9), bad((1, 0), 1), OFF)
        self.assertEqual(ends, {(): ("good", 14, 3), (0, 0): ("off", 0, 1), (0, 1): ("good", 5, 1), (1, 0): ("good", 9, 3)})

    def test_an_answer_to_a_house_is_late(self):
        value = (("main", (), (want(1, call("sub")),)), ("sub", (), (want(1, ask()),)))
        self.assertEqual(self.ends(value, good((0, 0)), good(()), good((0,))), {(): (), (0, 0): (), (0, 0, 0, 0): ()})

    def test_all_formulas_are_reckoned_ahead(self):
        value = (
            ("main", (), (("set", "x", 1), want(2, call("sub", "x", x="x"), ask("x", n="x")), ("give", "x"))),
            ("sub", ("a",), (("give", ("+", "a", 10)),)),
        )
        houses, asks = self.run_of(value, good((0, 1), 5))
        self.assertEqual(asks, (((0, 1), "sun", 1, 0, ("good", 5, 1)),))
        self.assertEqual([one[3] for one in houses], [("good", 5, 1), ("good", 11, 0)])

    def test_over_only_when_all_have_ended(self):
        # Called off, the house has still to undo what it began; only then is the want over.
        value = (
            ("main", (), (want(1, ask("x"), call("slow")), tell("x"))),
            ("slow", (), (do((want(1, ask()),), (want(1, ask("y")), tell("y"))),)),
        )
        told = self.run_of(value, good((0, 0), 5))
        self.assertEqual(told[0][0], ((), "main", 0, (), ()))
        houses, asks = self.run_of(value, good((0, 0), 5), bad((0, 0)), good((0, 1, 1, 0), 7))
        self.assertEqual(houses, (
            ((), "main", 0, ("good", 0, 3), ((3, "tell", 5),)),
            ((0, 1), "slow", 0, ("off", 0, 3), ((0, "do", 0), (1, "undo", 0), (3, "tell", 7), (3, "undone", 0))),
        ))
        self.assertEqual(asks, (
            ((0, 0), "sun", 1, 0, ("good", 5, 1)), ((0, 1, 0, 0), "sun", 1, 0, ("off", 0, 1)), ((0, 1, 1, 0), "sun", 1, 1, ("good", 7, 3)),
        ))

    def test_missed_and_over_later(self):
        value = (
            ("main", (), (("try", (want(2, ask(), call("slow")),), "x", (tell("x"),)),)),
            ("slow", (), (do((want(1, ask()),), (want(1, ask()),)),)),
        )
        self.assertEqual(self.diary(value, bad((0, 0), 5), bad((0, 1, 1, 0), 7)), ((2, "tell", 5),))


class Faults(Runs):
    def test_caught(self):
        value = program(("try", (tell(1), ("fail", 7), tell(2)), "x", (tell("x"), tell(3))), tell(4))
        self.assertEqual(self.diary(value), tuple((0, "tell", n) for n in (1, 7, 3, 4)))
        value = program(("set", "x", 5), ("try", (("fail", 7),), None, (tell("x"),)), tell(4))
        self.assertEqual(self.diary(value), ((0, "tell", 5), (0, "tell", 4)))

    def test_without_a_fault_the_second_block_is_not_done(self):
        self.assertEqual(self.diary(program(("try", (tell(1),), "x", (tell(2),)), tell("x"))), ((0, "tell", 1), (0, "tell", 0)))

    def test_a_fault_in_the_second_block_goes_outwards(self):
        inner = ("try", (("fail", 1),), "x", (("fail", 2),))
        self.assertEqual(self.end(program(inner)), ("bad", 2, 0))
        self.assertEqual(self.diary(program(("try", (inner,), "y", (tell("x"), tell("y"))))), ((0, "tell", 1), (0, "tell", 2)))

    def test_through_ifs_and_whiles(self):
        value = program(("try", (("while", 1, (("if", 0, (), (("fail", 6),)),)),), "x", (tell("x"),)))
        self.assertEqual(self.diary(value), ((0, "tell", 6),))

    def test_the_innermost_try_catches(self):
        value = program(("try", (("try", (("fail", 6),), "x", ()), tell("x")), "x", (tell(9),)))
        self.assertEqual(self.diary(value), ((0, "tell", 6),))

    def test_a_missed_want_is_caught(self):
        value = program(("try", (want(1, ask()),), "x", (tell("x"), want(1, ask("x")))), tell("x"))
        self.assertEqual(self.diary(value, bad((0, 0), 8), good((1, 0), 9)), ((1, "tell", 8), (2, "tell", 9)))

    def test_a_do_is_undone(self):
        value = program(do((tell(1), ("fail", 7), tell(2)), (tell(3),)), tell(4))
        self.assertEqual(self.diary(value), ((0, "do", 0), (0, "tell", 1), (0, "undo", 0), (0, "tell", 3), (0, "undone", 0)))
        self.assertEqual(self.end(value), ("bad", 7, 0))

    def test_undone_and_then_caught(self):
        value = program(("try", (do((("fail", 7),), (tell("x"),)),), "x", (tell("x"),)))
        self.assertEqual(self.diary(value), ((0, "do", 0), (0, "undo", 0), (0, "tell", 0), (0, "undone", 0), (0, "tell", 7)))

    def test_caught_within_a_do_it_is_done(self):
        value = program(do((("try", (("fail", 7),), "x", ()),), (tell(3),)))
        self.assertEqual(self.diary(value), ((0, "do", 0), (0, "done", 0)))

    def test_dos_are_undone_innermost_first(self):
        value = program(do((do((("fail", 7),), (tell(1),)),), (tell(2),)))
        self.assertEqual(self.diary(value), (
            (0, "do", 0), (0, "do", 1), (0, "undo", 1), (0, "tell", 1), (0, "undone", 1), (0, "undo", 0), (0, "tell", 2), (0, "undone", 0),
        ))
        self.assertEqual(self.end(value), ("bad", 7, 0))

    def test_a_do_that_is_done_is_not_undone(self):
        value = program(do((tell(1),), (tell(2),)), ("fail", 7))
        self.assertEqual(self.diary(value), ((0, "do", 0), (0, "tell", 1), (0, "done", 0)))

    def test_a_fault_in_an_undoing(self):
        value = program(("try", (do((("fail", 7),), (tell(1), ("fail", 8), tell(2))), tell(3)), "x", (tell("x"),)))
        self.assertEqual(self.diary(value), ((0, "do", 0), (0, "undo", 0), (0, "tell", 1), (0, "undone", 0), (0, "tell", 8)))

    def test_a_fault_caught_within_an_undoing(self):
        value = program(do((("fail", 7),), (("try", (("fail", 8),), "x", (tell("x"),)), tell(2))))
        self.assertEqual(self.diary(value), ((0, "do", 0), (0, "undo", 0), (0, "tell", 8), (0, "tell", 2), (0, "undone", 0)))
        self.assertEqual(self.end(value), ("bad", 7, 0))

    def test_a_do_within_an_undoing(self):
        value = program(do((("fail", 7),), (do((("fail", 8),), (("fail", 9),)), tell(2))))
        self.assertEqual(self.diary(value), (
            (0, "do", 0), (0, "undo", 0), (0, "do", 1), (0, "undo", 1), (0, "undone", 1), (0, "undone", 0),
        ))
        self.assertEqual(self.end(value), ("bad", 9, 0))

    def test_an_undoing_that_waits(self):
        value = program(do((want(1, ask()),), (want(1, ask("x")), tell("x"))))
        told = ((0, "do", 0), (1, "undo", 0), (2, "tell", 9), (2, "undone", 0))
        self.assertEqual(self.diary(value, bad((0, 0), 7), good((1, 0), 9)), told)
        self.assertEqual(self.end(value, bad((0, 0), 7), good((1, 0), 9)), ("bad", 7, 2))
        self.assertEqual(self.end(value, bad((0, 0), 7), bad((1, 0), 9)), ("bad", 9, 2))

    def test_rounds_and_wants_in_undoings_count(self):
        loop = ("while", 1, ())
        self.assertEqual(self.diary(program(do((loop,), (loop,)))), ((0, "do", 0), (0, "undo", 0), (0, "undone", 0)))
        self.assertEqual(self.end(program(do((loop,), (loop,)))), ("bad", 1, 0))

    def test_a_fault_of_a_called_house_goes_to_its_want_alone(self):
        value = (("main", (), (want(1, call("sub"), ask("x")), ("give", "x"))), ("sub", (), (("fail", 7),)))
        self.assertEqual(self.ends(value, good((0, 1), 5)), {(): ("good", 5, 1), (0, 0): ("bad", 7, 0), (0, 1): ("good", 5, 1)})


class CalledOff(Runs):
    def test_the_first_house(self):
        value = program(want(1, ask("x")), tell(1))
        self.assertEqual(self.ends(value, OFF), {(): ("off", 0, 1), (0, 0): ("off", 0, 1)})
        self.assertEqual(self.diary(value, OFF), ())
        self.assertEqual(self.ends(value, OFF, good((0, 0)), OFF), {(): ("off", 0, 1), (0, 0): ("off", 0, 1)})

    def test_late_where_it_has_ended(self):
        self.assertEqual(self.run_of(program(tell(1)), OFF, OFF), self.run_of(program(tell(1))))
        value = program(want(1, ask("x")), ("give", "x"))
        self.assertEqual(self.end(value, good((0, 0), 5), OFF), ("good", 5, 1))

    def test_nothing_catches_it(self):
        value = program(("try", (want(1, ask()),), "x", (tell(1),)), tell(2))
        self.assertEqual(self.diary(value, OFF), ())
        self.assertEqual(self.end(value, OFF), ("off", 0, 1))

    def test_dos_are_undone_innermost_first(self):
        value = program(do((do((want(1, ask()),), (tell(1),)), tell(5)), (tell(2),)), tell(6))
        self.assertEqual(self.diary(value, OFF), (
            (0, "do", 0), (0, "do", 1), (1, "undo", 1), (1, "tell", 1), (1, "undone", 1), (1, "undo", 0), (1, "tell", 2), (1, "undone", 0),
        ))
        self.assertEqual(self.end(value, OFF), ("off", 0, 1))

    def test_only_dos_in_whose_first_block_it_is(self):
        value = program(do((tell(1),), (tell(2),)), do((want(1, ask()),), (tell(3),)), do((), (tell(4),)))
        self.assertEqual(self.diary(value, OFF), ((0, "do", 0), (0, "tell", 1), (0, "done", 0), (0, "do", 1), (1, "undo", 1), (1, "tell", 3), (1, "undone", 1)))

    def test_a_try_between_is_passed_over(self):
        value = program(do((("try", (do((want(1, ask()),), (("fail", 5),)),), "x", (tell(9),)),), (tell("x"),)))
        self.assertEqual(self.diary(value, OFF), (
            (0, "do", 0), (0, "do", 1), (1, "undo", 1), (1, "undone", 1), (1, "undo", 0), (1, "tell", 0), (1, "undone", 0),
        ))
        self.assertEqual(self.end(value, OFF), ("off", 0, 1))

    def test_a_fault_in_an_undoing_is_forgotten(self):
        value = program(("try", (do((want(1, ask()),), (tell(1), ("fail", 5), tell(2))),), "x", (tell(9),)))
        self.assertEqual(self.diary(value, OFF), ((0, "do", 0), (1, "undo", 0), (1, "tell", 1), (1, "undone", 0)))
        self.assertEqual(self.end(value, OFF), ("off", 0, 1))

    def test_a_fault_in_an_undoing_is_caught_within_it(self):
        value = program(do((want(1, ask()),), (("try", (("fail", 5),), "x", (tell("x"),)), tell(2))))
        self.assertEqual(self.diary(value, OFF), ((0, "do", 0), (1, "undo", 0), (1, "tell", 5), (1, "tell", 2), (1, "undone", 0)))

    def test_undoings_that_wait_one_behind_the_other(self):
        value = program(do((do((want(1, ask()),), (want(1, ask("x")), tell("x"))),), (want(1, ask("x")), tell("x"))))
        self.assertEqual(self.end(value, OFF), ())
        self.assertEqual(self.end(value, OFF, good((1, 0), 5)), ())
        self.assertEqual(self.diary(value, OFF, good((1, 0), 5), OFF, good((2, 0), 6)), (
            (0, "do", 0), (0, "do", 1), (1, "undo", 1), (2, "tell", 5), (2, "undone", 1), (2, "undo", 0), (4, "tell", 6), (4, "undone", 0),
        ))
        self.assertEqual(self.end(value, OFF, good((1, 0), 5), OFF, good((2, 0), 6)), ("off", 0, 4))
        self.assertEqual(self.end(value, OFF, bad((1, 0), 5), bad((2, 0), 6)), ("off", 0, 3))

    def test_a_second_off_is_late(self):
        value = program(do((want(1, ask()),), (want(1, ask()),)))
        self.assertEqual(self.ends(value, OFF, OFF, OFF), {(): (), (0, 0): ("off", 0, 1), (1, 0): ()})
        self.assertEqual(self.end(value, OFF, OFF, good((1, 0))), ("off", 0, 3))

    def test_within_an_undoing_it_is_only_noted(self):
        value = program(do((do((("fail", 7),), (want(1, ask("x")), tell("x"))),), (tell("y"),)), tell(8))
        self.assertEqual(self.ends(value, OFF), {(): (), (0, 0): ()})
        self.assertEqual(self.diary(value, OFF, good((0, 0), 5)), (
            (0, "do", 0), (0, "do", 1), (0, "undo", 1), (2, "tell", 5), (2, "undone", 1), (2, "undo", 0), (2, "tell", 0), (2, "undone", 0),
        ))
        self.assertEqual(self.end(value, OFF, good((0, 0), 5)), ("off", 0, 2))
        self.assertEqual(self.end(value, OFF, bad((0, 0), 5)), ("off", 0, 2))
        self.assertEqual(self.end(value, good((0, 0), 5), OFF), ("bad", 7, 1))

    def test_noted_it_goes_out_past_what_would_catch(self):
        value = program(("try", (do((("fail", 7),), (want(1, ask()),)),), "x", (tell("x"),)), tell(8))
        self.assertEqual(self.diary(value, good((0, 0))), ((0, "do", 0), (0, "undo", 0), (1, "undone", 0), (1, "tell", 7), (1, "tell", 8)))
        for answer in (good((0, 0)), bad((0, 0), 3)):
            self.assertEqual(self.diary(value, OFF, answer), ((0, "do", 0), (0, "undo", 0), (2, "undone", 0)))
            self.assertEqual(self.end(value, OFF, answer), ("off", 0, 2))

    def test_noted_it_goes_on_till_the_outermost_undoing_ends(self):
        inner = do((("fail", 8),), (want(1, ask("x")), tell("x")))
        value = program(do((("fail", 7),), (("try", (inner,), "y", (tell("y"), want(1, ask()))), tell(5))), tell(6))
        told = ((0, "do", 0), (0, "undo", 0), (0, "do", 1), (0, "undo", 1), (2, "tell", 4), (2, "undone", 1), (2, "tell", 8))
        self.assertEqual(self.diary(value, OFF, good((0, 0), 4)), told)
        self.assertEqual(self.diary(value, OFF, good((0, 0), 4), good((1, 0))), told + ((3, "tell", 5), (3, "undone", 0)))
        self.assertEqual(self.end(value, OFF, good((0, 0), 4), good((1, 0))), ("off", 0, 3))

    def test_noted_a_second_off_is_late(self):
        value = program(do((do((("fail", 7),), (want(1, ask()),)),), (want(1, ask()),)))
        self.assertEqual(self.ends(value, OFF, OFF, good((0, 0)), OFF), {(): (), (0, 0): ("good", 0, 3), (1, 0): ()})
        self.assertEqual(self.end(value, OFF, OFF, good((0, 0)), OFF, good((1, 0))), ("off", 0, 5))

    def test_wants_within_an_undoing_are_decided_as_ever(self):
        value = program(do((("fail", 7),), (want(1, ask("x"), ask("y")), tell("x"), tell("y"))))
        ends = self.ends(value, OFF, good((0, 1), 5))
        self.assertEqual(ends, {(): ("off", 0, 2), (0, 0): ("off", 0, 2), (0, 1): ("good", 5, 2)})
        self.assertEqual(self.diary(value, OFF, good((0, 1), 5))[2:], ((2, "tell", 0), (2, "tell", 5), (2, "undone", 0)))

    def test_wants_in_the_undoing_of_one_that_goes_out_are_decided_as_ever(self):
        value = program(do((want(1, ask()),), (want(1, ask("x"), ask("y")), tell("x"), tell("y"))))
        ends = self.ends(value, OFF, good((1, 1), 5))
        self.assertEqual(ends, {(): ("off", 0, 2), (0, 0): ("off", 0, 1), (1, 0): ("off", 0, 2), (1, 1): ("good", 5, 2)})
        self.assertEqual(self.diary(value, OFF, good((1, 1), 5))[2:], ((2, "tell", 0), (2, "tell", 5), (2, "undone", 0)))

    def test_houses_beneath_are_called_off_too(self):
        value = (
            ("main", (), (do((want(2, call("sub"), ask()),), (tell(1),)),)),
            ("sub", (), (do((want(2, call("low"), ask()),), (tell(2),)),)),
            ("low", (), (do((want(2, ask(), ask()),), (tell(3),)),)),
        )
        houses, asks = self.run_of(value, good((0, 0, 0, 0, 0, 1), 4), OFF)
        for path, n in (((), 1), ((0, 0), 2), ((0, 0, 0, 0), 3)):
            (one,) = [house for house in houses if house[0] == path]
            self.assertEqual(one[3:], (("off", 0, 2), ((0, "do", 0), (2, "undo", 0), (2, "tell", n), (2, "undone", 0))))
        self.assertEqual([(one[0], one[4]) for one in asks], [
            ((0, 0, 0, 0, 0, 0), ("off", 0, 2)), ((0, 0, 0, 0, 0, 1), ("good", 4, 1)), ((0, 0, 0, 1), ("off", 0, 2)), ((0, 1), ("off", 0, 2)),
        ])

    def test_it_goes_out_when_all_beneath_have_ended(self):
        value = (
            ("main", (), (do((want(1, call("sub"), ask()),), (tell(1),)),)),
            ("sub", (), (do((want(1, ask()),), (want(1, ask()),)),)),
        )
        self.assertEqual(self.ends(value, OFF), {
            (): (), (0, 0): (), (0, 1): ("off", 0, 1), (0, 0, 0, 0): ("off", 0, 1), (0, 0, 1, 0): (),
        })
        self.assertEqual(self.diary(value, OFF), ((0, "do", 0),))
        self.assertEqual(self.diary(value, OFF, bad((0, 0, 1, 0))), ((0, "do", 0), (2, "undo", 0), (2, "tell", 1), (2, "undone", 0)))
        ends = self.ends(value, OFF, bad((0, 0, 1, 0)))
        self.assertEqual((ends[(0, 0)], ends[()]), (("off", 0, 2), ("off", 0, 2)))

    def test_beneath_within_an_undoing_it_is_only_noted(self):
        value = (
            ("main", (), (want(1, call("sub")),)),
            ("sub", (), (do((do((("fail", 7),), (want(1, call("low", x="x")), tell("x"))),), (tell(1),)),)),
            ("low", (), (want(1, ask("x")), ("give", "x"))),
        )
        ends = self.ends(value, OFF)
        self.assertEqual(set(ends.values()), {()})
        ends = self.ends(value, OFF, good((0, 0, 0, 0, 0, 0), 6))
        self.assertEqual(ends, {
            (): ("off", 0, 2), (0, 0): ("off", 0, 2), (0, 0, 0, 0): ("good", 6, 2), (0, 0, 0, 0, 0, 0): ("good", 6, 2),
        })
        told = self.diary(value, OFF, good((0, 0, 0, 0, 0, 0), 6), path=(0, 0))
        self.assertEqual(told[3:], ((2, "tell", 6), (2, "undone", 1), (2, "undo", 0), (2, "tell", 1), (2, "undone", 0)))

    def test_called_off_while_its_want_was_decided_ahead(self):
        # Reached in hour 1, but the slow branch has still to undo; then the house itself is called off.
        value = (
            ("main", (), (do((want(1, ask("x"), call("slow")), tell(1)), (tell("x"),)),)),
            ("slow", (), (do((want(1, ask()),), (want(1, ask()),)),)),
        )
        last = good((0, 1, 1, 0))
        self.assertEqual(self.diary(value, good((0, 0), 5), last), ((0, "do", 0), (2, "tell", 1), (2, "done", 0)))
        # It goes out in the place of going on, so the name is not set either.
        self.assertEqual(self.diary(value, good((0, 0), 5), OFF, last), ((0, "do", 0), (3, "undo", 0), (3, "tell", 0), (3, "undone", 0)))
        self.assertEqual(self.end(value, good((0, 0), 5), OFF, last), ("off", 0, 3))
        self.assertEqual(self.end(value, good((0, 0), 5), OFF), ())

    def test_called_off_while_its_want_was_missed_ahead(self):
        value = (
            ("main", (), (("try", (want(2, ask("x"), call("slow")),), "y", (tell("y"),)), tell(1))),
            ("slow", (), (do((want(1, ask()),), (want(1, ask()),)),)),
        )
        last = good((0, 1, 1, 0))
        self.assertEqual(self.diary(value, bad((0, 0), 5), last), ((2, "tell", 5), (2, "tell", 1)))
        self.assertEqual(self.diary(value, bad((0, 0), 5), OFF, last), ())
        self.assertEqual(self.end(value, bad((0, 0), 5), OFF, last), ("off", 0, 3))

    def test_a_branch_that_was_called_off_ends_off_however_its_undoing_ends(self):
        for row in (tell(1), ("fail", 5), do((("fail", 6),), ())):
            value = (("main", (), (want(1, ask("x"), call("sub", x="x")), ("give", "x"))), ("sub", (), (do((want(1, ask()),), (row,)),)))
            ends = self.ends(value, good((0, 0), 8))
            self.assertEqual((ends[(0, 1)], ends[()]), (("off", 0, 1), ("good", 8, 1)))

    def test_the_same_hour_calls_off_what_it_sent(self):
        value = (
            ("main", (), (want(1, call("sub"), ask()),)),
            ("sub", (), (want(1, ask()), want(1, call("ends"), ask()), ("give", 1))),
            ("ends", (), ()),
        )
        houses, asks = self.run_of(value, good((0, 0, 0, 0)))
        self.assertEqual([one for one in asks if one[0] == (0, 0, 1, 1)], [((0, 0, 1, 1), "sun", 1, 1, ("off", 0, 1))])
        self.assertEqual([one[3] for one in houses], [("good", 0, 1), ("good", 1, 1), ("good", 0, 1)])

    def test_a_sibling_that_has_just_gone_on_is_called_off_at_its_new_want(self):
        value = (
            ("main", (), (want(1, call("sub", x="x"), call("slow")), tell("x"))),
            ("sub", (), (("give", 3),)),
            ("slow", (), (tell(1), do((tell(2), want(1, ask(n=4))), (tell(3),)))),
        )
        houses, asks = self.run_of(value)
        told = tuple((0, word, n) for word, n in (("tell", 1), ("do", 0), ("tell", 2), ("undo", 0), ("tell", 3), ("undone", 0)))
        self.assertEqual(houses, (
            ((), "main", 0, ("good", 0, 0), ((0, "tell", 3),)), ((0, 0), "sub", 0, ("good", 3, 0), ()),
            ((0, 1), "slow", 0, ("off", 0, 0), told),
        ))
        self.assertEqual(asks, (((0, 1, 0, 0), "sun", 4, 0, ("off", 0, 0)),))


class Diaries(Runs):
    def test_numbers_of_dos(self):
        empty = do((), ())
        value = program(
            do((empty, do((empty,), (empty,))), (empty, empty)), ("if", 0, (empty,), (empty,)),
            ("try", (empty, ("fail", 1)), None, (empty,)), ("while", ("<", "x", 1), (("set", "x", 1), empty)), empty,
        )
        numbers = [n for _, word, n in self.diary(value) if word == "do"]
        self.assertEqual(numbers, [0, 1, 2, 3, 8, 9, 10, 11, 12])

    def test_numbers_of_dos_in_undoings(self):
        empty = do((), ())
        value = program(do((empty, ("fail", 1)), (do((empty,), (empty,)), empty)))
        numbers = [(word, n) for _, word, n in self.diary(value) if word != "done"]
        self.assertEqual(numbers, [("do", 0), ("do", 1), ("undo", 0), ("do", 2), ("do", 3), ("do", 5), ("undone", 0)])

    def test_alike_dos_have_numbers_of_their_own(self):
        value = program(*[do((tell(1),), ())] * 3)
        self.assertEqual([n for _, word, n in self.diary(value) if word == "do"], [0, 1, 2])
        self.assertEqual([n for _, word, n in self.diary(value) if word == "done"], [0, 1, 2])

    def test_rounds_do_the_same_do_again(self):
        value = program(("while", ("<", "x", 2), (("set", "x", ("+", "x", 1)), do((), ()))))
        self.assertEqual(self.diary(value), ((0, "do", 0), (0, "done", 0)) * 2)

    def test_each_errand_counts_its_own(self):
        value = (("main", (), (do((), ()), do((want(1, call("sub")),), ()))), ("sub", (), (do((), ()),)))
        self.assertEqual(self.diary(value), ((0, "do", 0), (0, "done", 0), (0, "do", 1), (0, "done", 1)))
        self.assertEqual(self.diary(value, path=(0, 0)), ((0, "do", 0), (0, "done", 0)))

    def test_a_give_leaves_dos_innermost_first(self):
        value = program(do((do((do((tell(1), ("give", 5)), (tell(2),)), tell(3)), (tell(4),)), tell(6)), (tell(7),)), tell(8))
        self.assertEqual(self.diary(value), (
            (0, "do", 0), (0, "do", 1), (0, "do", 2), (0, "tell", 1), (0, "done", 2), (0, "done", 1), (0, "done", 0),
        ))
        self.assertEqual(self.end(value), ("good", 5, 0))
        value = program(do((("try", (do((("give", 5),), (tell(2),)),), "x", (tell(3),)),), (tell(4),)))
        self.assertEqual(self.diary(value), ((0, "do", 0), (0, "do", 1), (0, "done", 1), (0, "done", 0)))

    def test_a_give_marks_only_dos_that_it_stands_in(self):
        value = program(do((), ()), do((("give", 1),), ()), do((), ()))
        self.assertEqual(self.diary(value), ((0, "do", 0), (0, "done", 0), (0, "do", 1), (0, "done", 1)))

    def test_hours(self):
        value = program(do((tell(1), want(1, ask("x")), tell("x")), ()), want(1, ask("x")), tell("x"))
        self.assertEqual(self.diary(value, good((9, 9)), good((0, 0), 5), good((9, 9)), good((1, 0), 6)), (
            (0, "do", 0), (0, "tell", 1), (2, "tell", 5), (2, "done", 0), (4, "tell", 6),
        ))

    def test_a_give_in_a_do_that_waited(self):
        value = program(do((want(1, ask("x")), ("give", "x")), (tell(1),)))
        self.assertEqual(self.diary(value, good((0, 0), 5)), ((0, "do", 0), (1, "done", 0)))


class Told(Runs):
    def test_kinds(self):
        value = (("main", (), (want(1, ask("x"), call("sub")),)), ("sub", (), (tell(1), want(1, ask()))))
        for events in ((), (good((0, 0), 4),), (OFF,)):
            told = meant(value, "main", (), events)
            self.assertTrue(plain(told))

    def test_rising(self):
        value = (("main", (), (want(4, call("sub"), ask(), call("sub"), ask()),) * 2), ("sub", (), (want(1, ask()),)))
        events = [good((0, 0, 0, 0)), good((0, 1)), good((0, 2, 0, 0)), good((0, 3))]
        houses, asks = self.run_of(value, *events)
        self.assertEqual([one[0] for one in houses], [(), (0, 0), (0, 2), (1, 0), (1, 2)])
        paths = [one[0] for one in asks]
        self.assertEqual(paths, sorted(paths))
        self.assertEqual(len(paths), 8)

    def test_ends_that_have_not_come(self):
        value = (("main", (), (want(1, ask(), call("sub")),)), ("sub", (), (want(1, ask()),)))
        self.assertEqual(self.run_of(value), (
            (((), "main", 0, (), ()), ((0, 1), "sub", 0, (), ())),
            (((0, 0), "sun", 1, 0, ()), ((0, 1, 0, 0), "sun", 1, 0, ())),
        ))

    def test_many_by_dice_as_another_way_tells_them(self):
        for seed in range(700):
            dice = random.Random(seed)
            value = ProgramDice(dice).program()
            name = value[0][0]
            args = tuple(dice.choice((0, 1, 2, 5)) for _ in value[0][1])
            events = ()
            for _ in range(dice.randint(0, 20)):
                waits = [one[0] for one in meant(value, name, args, events)[1] if one[4] == ()]
                events += (some_event(dice, waits),)
            self.assertEqual(meant(value, name, args, events), OracleRun(value, name, args, events).told(), seed)


if __name__ == "__main__":
    unittest.main()
