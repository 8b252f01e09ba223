import copy
import random
import unittest

from errandroom.needs import needs, way_to
from errandroom.places import places, slid
from errandroom.programs import is_program
from room_oracle import OracleNeeds
from samples import ProgramDice, plain

T = ("tell", 1)


def errand(*rows, params=()):
    return ("main", params, tuple(rows))


def do(first, undoing):
    return ("do", tuple(first), tuple(undoing))


def tries(first, x, second):
    return ("try", tuple(first), x, tuple(second))


def want(least, *branches):
    return ("want", least, tuple(branches))


def ask(x=None, n=1):
    return (x, "ask", "sun", n)


class Needs(unittest.TestCase):
    def all_of(self, one):
        """Needs by their places, looked at by the second way, with a way for each and none for others."""
        self.assertTrue(is_program((one, ("sub", ("p",), ()))))
        before = copy.deepcopy(one)
        told = needs(one)
        self.assertEqual(needs(one), told)
        self.assertTrue(plain(told))
        self.assertEqual(tuple(place for place, _ in told), places(one))
        oracle = OracleNeeds(one)
        for place, keys in told:
            self.assertEqual(keys, tuple(sorted(set(keys))))
            self.assertEqual(set(keys), {key for key in oracle.keys if slid(one, place) in oracle.needed(key)}, place)
            for key in sorted(oracle.keys) + ["none", "99", ""]:
                self.check_way(one, oracle, place, key, key in keys)
        self.assertEqual(one, before)
        return dict(told)

    def check_way(self, one, oracle, place, key, needed):
        way = way_to(one, place, key)
        self.assertEqual(way_to(one, place, key), way)
        if not needed:
            self.assertIsNone(way)
            return
        self.assertIs(type(way), tuple)
        self.assertEqual(way[0], slid(one, place))
        for here, there in zip(way, way[1:]):
            self.assertTrue(any((a, b) == (here, there) and key not in keys for a, b, keys in oracle.leads))
        self.assertEqual([key in oracle.reads[here] for here in way], [False] * (len(way) - 1) + [True])

    def check(self, one, told):
        found = self.all_of(one)
        for place, keys in told:
            self.assertEqual(found[place], keys, place)


class Names(Needs):
    def test_read_by_each_kind_of_row(self):
        one = ("+", "a", ("*", "b", 2))
        for row in (
            ("set", "c", one), ("tell", one), ("give", one), ("fail", one), ("if", one, (), ()), ("while", one, ()), want(1, ask(None, one)),
            want(1, ask(), ask(None, one)), want(1, (None, "call", "sub", (one,))), want(1, ask(None, "a"), (None, "call", "sub", ("b",))),
        ):
            self.check(errand(row), [((0,), ("a", "b")), ((1,), ())])
            self.check(errand(T, row), [((0,), ("a", "b")), ((1,), ("a", "b"))])
            self.assertEqual(way_to(errand(T, row), (0,), "b"), ((0,), (1,)))
            self.assertEqual(way_to(errand(T, row), (1,), "b"), ((1,),))

    def test_not_read(self):
        self.check(errand(("set", "x", 1)), [((0,), ()), ((1,), ())])
        self.check(errand(want(1, ask("x"))), [((0,), ())])
        self.check(errand(tries((("fail", 1),), "x", ())), [((0,), ())])
        self.check(errand(params=("a", "b")), [((0,), ())])
        # An end gives 0, a give ends all.
        self.check(errand(("give", 1), ("tell", "x")), [((0,), ()), ((1,), ("x",))])
        self.check(errand(("fail", 1), ("tell", "x")), [((0,), ())])

    def test_set_by_set(self):
        self.check(errand(("set", "x", 1), ("tell", "x")), [((0,), ()), ((1,), ("x",))])
        self.check(errand(("set", "x", ("+", "x", 1)), ("tell", "x")), [((0,), ("x",)), ((1,), ("x",))])
        self.check(errand(("set", "x", "y"), ("tell", ("+", "x", "y"))), [((0,), ("y",)), ((1,), ("x", "y"))])
        self.assertEqual(way_to(errand(("set", "x", 1), ("tell", "x")), (1,), "x"), ((1,),))
        self.assertIsNone(way_to(errand(("set", "x", 1), ("tell", "x")), (0,), "x"))

    def test_set_by_a_want(self):
        self.check(errand(want(1, ask("x")), ("tell", "x")), [((0,), ())])
        self.check(errand(want(2, ask("x"), ask("y")), ("tell", ("+", "x", "y"))), [((0,), ())])
        # With fewer than all wanted none is surely set.
        self.check(errand(want(1, ask("x"), ask("y")), ("tell", ("+", "x", "y"))), [((0,), ("x", "y"))])
        self.check(errand(want(1, ask("x"), ask("x")), ("tell", "x")), [((0,), ("x",))])
        self.check(errand(want(1, ask("x", "x")), ("tell", "x")), [((0,), ("x",))])

    def test_a_want_sets_nothing_on_its_fall_and_off(self):
        one = errand(tries((want(1, ask("x")),), None, (("tell", "x"),)))
        self.check(one, [((0,), ("x",)), ((0, 0, 0), ("x",)), ((0, 0, 1), ())])
        self.assertEqual(way_to(one, (0,), "x"), ((0, 0, 0), (0, 1, 0)))
        one = errand(do((want(1, ask("x")),), (("tell", "x"),)))
        self.check(one, [((0,), ("x",)), ((0, 0, 0), ("x",)), ((0, 0, 1), ())])

    def test_set_by_a_catch_on_its_way(self):
        one = errand(tries((("if", "y", (("fail", 1),), ()),), "x", (("tell", "x"),)), T)
        self.check(one, [((0,), ("y",)), ((0, 1, 0), ("x",)), ((1,), ())])
        one = errand(tries((("if", "y", (("fail", 1),), ()),), "x", ()), ("tell", "x"))
        # Where no fault comes up, it is not set.
        self.check(one, [((0,), ("x", "y")), ((0, 0, 0, 0, 0), ()), ((0, 0, 0, 1, 0), ("x",)), ((0, 1, 0), ("x",))])
        self.assertEqual(way_to(one, (0,), "x"), ((0, 0, 0), (1,)))
        one = errand(tries((("fail", 1),), None, (("tell", "x"),)))
        self.check(one, [((0,), ("x",))])

    def test_loops(self):
        one = errand(("while", "a", (("tell", "x"), ("set", "x", 1))), ("tell", "y"))
        self.check(one, [((0,), ("a", "x", "y")), ((0, 0), ("a", "x", "y")), ((0, 0, 1), ("a", "y")), ((0, 0, 2), ("a", "x", "y")), ((1,), ("y",))])
        self.assertEqual(way_to(one, (0, 0, 1), "y"), ((0, 0, 1), (0,), (1,)))
        self.assertEqual(way_to(one, (0, 0, 2), "x"), ((0,), (0, 0), (0, 0, 0)))
        one = errand(("while", 1, (("set", "x", "y"), ("set", "y", "x"))))
        self.check(one, [((0,), ("y",)), ((0, 0, 1), ("x",))])

    def test_a_round_leads_on_and_falls(self):
        one = errand(tries((("while", 1, (T,)),), "x", (("tell", ("+", "x", "y")),)))
        self.check(one, [((0, 0, 0), ("y",)), ((0, 0, 0, 0), ("y",)), ((0, 0, 0, 0, 0), ("y",)), ((0, 0, 1), ())])
        self.assertEqual(way_to(one, (0, 0, 0, 0), "y"), ((0, 0, 0, 0), (0, 1, 0)))

    def test_forks(self):
        one = errand(("if", 1, (("tell", "x"),), (("set", "z", 1), ("tell", "y"))), ("tell", "z"))
        self.check(one, [((0,), ("x", "y", "z")), ((0, 0, 0), ("x", "z")), ((0, 1, 0), ("y",)), ((0, 1, 1), ("y", "z")), ((0, 0, 1), ("z",))])

    def test_places_that_slide(self):
        one = errand(tries((tries((("tell", "x"),), None, ()),), None, ()), ("tell", "y"))
        self.check(one, [((0,), ("x", "y")), ((0, 0, 0), ("x", "y")), ((0, 0, 1), ("y",)), ((0, 0, 0, 0, 1), ("y",)), ((0, 1, 0), ("y",))])
        self.assertEqual(way_to(one, (0,), "x"), ((0, 0, 0, 0, 0),))
        self.assertEqual(way_to(one, (0, 0, 0, 0, 1), "y"), ((1,),))

    def test_keys_that_are_none(self):
        for key in ("b", "0", "1", "tell", ""):
            self.assertIsNone(way_to(errand(("tell", "a")), (0,), key))
            self.assertIsNone(way_to(errand(("tell", "a")), (1,), key))

    def test_places_that_are_none(self):
        for place in ((), (2,), (0, 0), (0, 0, 0), (-1,)):
            self.assertIsNone(way_to(errand(("tell", "a")), place, "a"))


class Numbers(Needs):
    def test_read_at_the_end_of_the_undoing(self):
        one = errand(do((T,), (T, T)))
        self.check(one, [((0, 1), ("0",)), ((0, 1, 0), ("0",)), ((0, 1, 2), ("0",)), ((0,), ()), ((0, 0, 0), ()), ((0, 0, 1), ()), ((1,), ())])
        self.assertEqual(way_to(one, (0, 1), "0"), ((0, 1), (0, 1, 0), (0, 1, 1), (0, 1, 2)))
        self.assertEqual(way_to(one, (0, 1, 2), "0"), ((0, 1, 2),))

    def test_set_by_a_fall(self):
        one = errand(do((("fail", "x"),), (("fail", 2),)))
        self.check(one, [((0,), ("x",)), ((0, 0, 0), ("x",)), ((0, 1), ()), ((0, 1, 0), ()), ((0, 1, 1), ("0",))])
        one = errand(do((("fail", "x"),), (("if", "x", (("fail", 2),), ()),)))
        self.check(one, [((0, 1), ("0", "x")), ((0, 1, 0, 0, 0), ()), ((0, 1, 0, 1, 0), ("0",))])

    def test_set_by_an_off(self):
        one = errand(do((want(1, ask()),), (("tell", "x"),)))
        self.check(one, [((0,), ("x",)), ((0, 0, 0), ("x",)), ((0, 1), ("0", "x"))])

    def test_dos_within_dos(self):
        one = errand(do((do((("fail", 1),), (T,)), ("tell", "a")), (("tell", "x"),)))
        # By the out of the inner one the outer number is set.
        self.check(one, [
            ((0, 0, 0), ("x",)), ((0, 0, 0, 1), ("1", "x")), ((0, 0, 0, 1, 1), ("1", "x")), ((0, 0, 1), ("a",)), ((0, 1), ("0", "x")),
        ])
        self.assertEqual(way_to(one, (0, 0, 0), "x"), ((0, 0, 0), (0, 0, 0, 0, 0), (0, 0, 0, 1), (0, 0, 0, 1, 0), (0, 0, 0, 1, 1), (0, 1), (0, 1, 0)))

    def test_dos_within_undoings(self):
        one = errand(do((("fail", 1),), (do((want(1, ask()),), (T,)), T)))
        self.check(one, [
            ((0, 1), ("0",)), ((0, 1, 0), ("0",)), ((0, 1, 0, 0, 0), ("0",)), ((0, 1, 0, 1), ("1",)), ((0, 1, 0, 1, 1), ("1",)), ((0, 1, 1), ("0",)),
        ])

    def test_ten_and_more_are_texts(self):
        row = do((do((), ()), do((), ())), ())
        one = errand(row, row, row, row)
        self.check(one, [((3, 1), ("9",)), ((3, 0, 0, 1, 0), ("10",)), ((3, 0, 1, 1), ("11",))])
        inner = errand(do((), (do((), ()),) * 2), *[do((), ())] * 6, do((("fail", 1),), (tries((do((), ()),), None, ()),)))
        self.all_of(inner)

    def test_an_out_reads_and_then_sets_the_outer_one(self):
        one = errand(do((do((), ()),), ()))
        self.check(one, [((0, 0, 0, 1, 0), ("1",)), ((0, 1), ("0",))])

    def test_names_behind_an_out_that_is_caught(self):
        one = errand(tries((do((("fail", 1),), ()),), "x", (("tell", ("+", "x", "y")),)))
        self.check(one, [((0,), ("y",)), ((0, 0, 0, 1, 0), ("0", "y"))])
        one = errand(do((do((("fail", 1),), ()),), (("tell", "z"),)))
        self.check(one, [((0,), ("z",))])


class ByDice(Needs):
    def test_as_another_way_tells_them(self):
        for seed in range(60):
            value = ProgramDice(random.Random(seed), lively=seed % 2 == 0).program()
            for one in value:
                self.assertTrue(is_program(value))
                oracle = OracleNeeds(one)
                told = dict(needs(one))
                wanted = {key: oracle.needed(key) for key in oracle.keys}
                for place in places(one):
                    self.assertEqual(set(told[place]), {key for key in oracle.keys if slid(one, place) in wanted[key]})
                    for key in random.Random(seed).sample(sorted(oracle.keys), min(3, len(oracle.keys))):
                        self.check_way(one, oracle, place, key, key in told[place])


if __name__ == "__main__":
    unittest.main()
