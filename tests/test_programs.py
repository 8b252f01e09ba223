import copy
import random
import unittest

from errandroom.errors import ErrandError, NoErrand
from errandroom.programs import errand_of, is_program, names_of
from samples import ASK, OTHERS, TOP, WHOLE, ProgramDice, Strange, deep_rows, deep_triple, errand, nested, program, triples

NOT_WORDS = ("", "A", "aB", "a1", "1", "a_b", "a b", " a", "a ", "a\n", "abcdefghi", "\u00e9", "a\u00e9", "-", "=")
NOT_NAMES = NOT_WORDS + (1, True, ("a",), ["a"], b"a", Strange())
NOT_FORMULAS = (
    None, True, False, -1, TOP + 1, 10**40, "", "A", "abcdefghi", "1", (), ("+",), ("+", 1), ("+", 1, 2, 3), ["+", 1, 2],
    ("+", 1, [1]), ("/", 1, 2), (">", 1, 2), ("==", 1, 2), ("+-", 1, 2), ("", 1, 2), (None, 1, 2), (1, 1, 2), (True, 1, 1),
    ("+", True, 1), ("+", 1, False), ("+", -1, 1), ("+", 1, TOP + 1), ("+", None, 1), ("+", 1, "B"), ("slot", 0),
    (("+",), 1, 2), (("+", 1, 1), "+", 2), (Strange(), 1, 2), {}, b"a", Strange(), deep_triple(),
)


class Words(unittest.TestCase):
    def yes(self, value):
        self.assertIs(is_program(value), True, repr(value)[:200])

    def no(self, value):
        # What is no program may be too deep to be shown.
        self.assertIs(is_program(value), False)


class Programs(Words):
    def test_ordinary_ones(self):
        self.yes(WHOLE)
        self.yes((("a", (), ()),))
        for row in WHOLE[0][2]:
            self.yes((errand((row,)),) + WHOLE[1:])

    def test_other_things(self):
        for value in OTHERS:
            self.no(value)
            self.no((value,))
            self.no((("a", (), ()), value))

    def test_kinds_of_its_parts(self):
        self.no(list(WHOLE))
        self.no((list(WHOLE[0]),) + WHOLE[1:])
        self.no(errand(()))
        self.no((("a", ()),))
        self.no((("a", (), (), ()),))
        self.no((("a", [], ()),))
        self.no((("a", (), []),))
        self.no((("a", (), None),))
        self.no((("a", None, ()),))
        self.no((("a", "bc", ()),))
        self.no((("a", (), "bc"),))
        self.no(program(["tell", 1]))

    def test_things_of_all_kinds_at_each_place(self):
        for value in OTHERS:
            self.no((("a", (), (value,)),))
            if not isinstance(value, str) or value not in ("a", "main"):
                self.no((("a", (value,), ()),))
                self.no(((value, (), ()),))
            if not isinstance(value, tuple) or len(value) > 0:
                self.no((("a", (), value),))
                self.no((("a", value, ()),))

    def test_count_of_errands(self):
        many = tuple(errand((), name) for name in "abcdefg")
        self.no(many)
        for count in range(1, 7):
            self.yes(many[:count])
        self.no(())

    def test_names_of_errands(self):
        self.yes((errand((), "a"), errand((), "abcdefgh")))
        self.no((errand((), "a"), errand((), "a")))
        self.no((errand((), "a"), errand((), "b"), errand((("tell", 1),), "a", ("p",))))
        for name in NOT_NAMES + (None,):
            self.no((errand((), name),))

    def test_errand_and_names_may_be_alike(self):
        self.yes((errand((("set", "a", "b"),), "a", ("a", "b")), errand((), "b", ("a",))))

    def test_params(self):
        for count in range(4):
            self.yes((errand((), params=("a", "b", "abcdefgh")[:count]),))
        self.no((errand((), params=("a", "b", "c", "d")),))
        self.no((errand((), params=("a", "b", "a")),))
        self.no((errand((), params=("a", "a")),))
        self.no((errand((), params=["a"]),))
        for name in NOT_NAMES + (None,):
            self.no((errand((), params=(name,)),))
            self.no((errand((), params=("b", name)),))

    def test_asked_again_the_same_is_told_and_nothing_changed(self):
        before = copy.deepcopy(WHOLE)
        self.yes(WHOLE)
        self.yes(WHOLE)
        self.assertEqual(WHOLE, before)
        mixed = (["main", (), [("tell", 1)]],)
        before = copy.deepcopy(mixed)
        self.no(mixed)
        self.no(mixed)
        self.assertEqual(mixed, before)

    def test_many_made_by_dice(self):
        for seed in range(300):
            self.yes(ProgramDice(random.Random(seed)).program())


class Rows(Words):
    def test_every_row_word(self):
        for row in (
            ("set", "a", 1), ("tell", 1), ("give", 1), ("fail", 1), ("if", 1, (), ()), ("while", 1, ()),
            ("try", (), "x", ()), ("try", (), None, ()), ("do", (), ()), ("want", 1, (ASK,)),
        ):
            self.yes(program(row))
            self.no(program(row[:-1]))
            self.no(program(row + (1,)))
            self.no(program(row + ((),)))
            self.no(program(row[:1]))
            self.no(program(list(row)))
            self.no(program((row[0].upper(),) + row[1:]))
            self.no(program((row[0] + " ",) + row[1:]))
            self.no(program(((row[0],),) + row[1:]))

    def test_unknown_words(self):
        for word in ("", "put", "end", "else", "undo", "catch", "ask", "call", "errand", "go", None, 1, b"tell", Strange()):
            for parts in ((), (1,), ("a", 1), (1, ()), ((), ()), (1, (), ())):
                self.no(program((word,) + parts))

    def test_set(self):
        self.yes(program(("set", "abcdefgh", 0)))
        for name in NOT_NAMES + (None,):
            self.no(program(("set", name, 1)))

    def test_formulas_wherever_one_stands(self):
        for right in (0, 1, TOP, "a", "abcdefgh", ("+", 1, "a"), ("-", 1, 1), ("*", 1, 1), ("<", 1, 1), ("=", 1, 1)):
            for value in self.with_formula(right):
                self.yes(value)
        for wrong in NOT_FORMULAS:
            for value in self.with_formula(wrong):
                self.no(value)

    def with_formula(self, one):
        return (
            program(("set", "a", one)), program(("tell", one)), program(("give", one)), program(("fail", one)),
            program(("if", one, (), ())), program(("while", one, ())), program(("want", 1, ((None, "ask", "sun", one),))),
            (errand((("want", 1, ((None, "call", "main", (1, one)),)),), params=("a", "b")),),
            program(("if", 1, (), (("do", (), (("tell", one),)),))),
        )

    def test_how_deep_triples_stand(self):
        for deep in range(4):
            for value in self.with_formula(triples(deep)):
                self.yes(value)
        for deep in range(4, 7):
            for value in self.with_formula(triples(deep)):
                self.no(value)
        self.yes(program(("tell", ("+", triples(2), triples(2)))))
        self.no(program(("tell", ("+", 1, triples(3)))))
        self.no(program(("tell", ("+", triples(3), 1))))

    def test_catch_names(self):
        self.yes(program(("try", (), "abcdefgh", ())))
        for name in NOT_NAMES:
            self.no(program(("try", (), name, ())))

    def test_blocks(self):
        for block in (None, [], "", "ab", {}, 1, ("tell", 1), (("tell", 1), None), [("tell", 1)], ((),), Strange()):
            for row in (
                ("if", 1, block, ()), ("if", 1, (), block), ("while", 1, block), ("try", block, "x", ()),
                ("try", (), "x", block), ("do", block, ()), ("do", (), block),
            ):
                self.no(program(row))
                self.no(program(("if", 0, (row,), ())))

    def test_rows_of_a_block(self):
        tell = ("tell", 1)
        for count in range(9):
            self.yes(program(*([tell] * count)))
        self.no(program(*([tell] * 9)))
        for count, told in ((8, self.yes), (9, self.no)):
            block = (tell,) * count
            for row in (
                ("if", 1, block, ()), ("if", 1, (), block), ("while", 1, block), ("try", block, "x", ()),
                ("try", (), "x", block), ("do", block, ()), ("do", (), block),
            ):
                told(program(row))

    def test_rows_of_an_errand(self):
        tell = ("tell", 1)
        eights = (("if", 1, (tell,) * 8, (tell,) * 8), ("while", 1, (tell,) * 4))
        self.yes(program(*eights, tell))
        self.yes(program(*eights, tell, tell))
        self.no(program(*eights, tell, tell, tell))
        self.no(program(*eights, ("do", (tell,), (tell,))))
        self.yes((errand(eights + (tell, tell)), errand(eights + (tell, tell), "other")))
        self.no((errand(eights + (tell, tell)), errand(eights + (tell, tell, tell), "other")))
        full = tuple(("try", (tell,), None, (tell,)) for _ in range(8))
        self.yes(program(*full))
        self.no(program(*full[:7], ("try", (tell, tell), None, (tell,))))

    def test_branches_are_no_rows(self):
        want = ("want", 1, (ASK,) * 4)
        self.yes(program(*[("if", 1, (want,), (want,))] * 8))

    def test_how_deep_rows_stand(self):
        for deep in range(1, 5):
            self.yes(program(nested(deep)))
        for deep in range(5, 8):
            self.no(program(nested(deep)))
        empty = (("if", 1, (), ()), ("while", 1, ()), ("try", (), None, ()), ("do", (), ()))
        for row in empty:
            self.yes(program(nested(4, row)))
            self.no(program(nested(5, row)))
        tell = ("tell", 1)
        for wrap in (
            lambda row: ("if", 1, (row,), ()), lambda row: ("if", 1, (), (row,)), lambda row: ("while", 1, (row,)),
            lambda row: ("try", (row,), None, ()), lambda row: ("try", (), None, (row,)),
            lambda row: ("do", (row,), ()), lambda row: ("do", (), (row,)),
        ):
            self.yes(program(wrap(wrap(wrap(tell)))))
            self.no(program(wrap(wrap(wrap(wrap(tell))))))
        self.no(program(deep_rows()))

    def test_no_give_in_an_undoing(self):
        give = ("give", 1)
        self.yes(program(("do", (give,), ())))
        self.no(program(("do", (), (give,))))
        for wrap in (
            lambda row: ("if", 1, (row,), ()), lambda row: ("if", 1, (), (row,)), lambda row: ("while", 1, (row,)),
            lambda row: ("try", (row,), None, ()), lambda row: ("try", (), None, (row,)),
            lambda row: ("do", (row,), ()),
        ):
            self.yes(program(wrap(give)))
            self.yes(program(("do", (wrap(give),), ())))
            self.no(program(("do", (), (wrap(give),))))
            self.no(program(("do", (), (wrap(wrap(give)),))))
            self.no(program(wrap(("do", (), (wrap(give),)))))
            self.no(program(("do", (("do", (), (wrap(give),)),), ())))
        self.yes(program(("do", (), (("fail", 1),)), give))


class Wants(Words):
    def test_count_of_branches(self):
        self.no(program(("want", 1, ())))
        for count in range(1, 5):
            self.yes(program(("want", 1, (ASK,) * count)))
            self.yes(program(("want", count, (ASK,) * count)))
            self.no(program(("want", count + 1, (ASK,) * count)))
            self.no(program(("want", 0, (ASK,) * count)))
            self.no(program(("want", -1, (ASK,) * count)))
        self.no(program(("want", 1, (ASK,) * 5)))

    def test_wrong_counts_wanted(self):
        for least in (True, None, "1", "a", (1,), [], Strange(), 10**30, ("+", 1, 0)):
            self.no(program(("want", least, (ASK, ASK))))

    def test_kinds_of_branches(self):
        for branches in ([ASK], ASK, None, 1, "ab", {}, (list(ASK),), (None,), ((),), (ASK, None), (ASK[:3],), (ASK + (1,),)):
            self.no(program(("want", 1, branches)))

    def test_names_of_branches(self):
        self.yes(program(("want", 1, (("abcdefgh", "ask", "abcdefgh", 1),))))
        for name in NOT_NAMES:
            self.no(program(("want", 1, ((name, "ask", "sun", 1),))))
            self.no(program(("want", 1, ((name, "call", "main", ()),))))
        for who in NOT_NAMES + (None,):
            self.no(program(("want", 1, ((None, "ask", who, 1),))))
            self.no(program(("want", 1, ((None, "call", who, ()),))))

    def test_words_of_branches(self):
        for word in ("", "Ask", "asks", "tell", "want", "ask ", None, 1, b"ask", ("ask",), Strange()):
            self.no(program(("want", 1, ((None, word, "main", 1),))))
            self.no(program(("want", 1, ((None, word, "main", ()),))))

    def test_asks_may_go_to_whomever(self):
        self.yes(program(("want", 1, ((None, "ask", "nobody", 1), (None, "ask", "main", 1)))))

    def test_calls_have_as_many_as_params(self):
        for count in range(4):
            for handed in range(5):
                called = errand((), "sub", ("a", "b", "c")[:count])
                row = ("want", 1, (("x", "call", "sub", (1,) * handed),))
                for value in ((errand((row,)), called), (called, errand((row,)))):
                    (self.yes if handed == count else self.no)(value)

    def test_calls_name_an_errand(self):
        self.yes(program(("want", 1, ((None, "call", "main", ()),))))
        self.no(program(("want", 1, ((None, "call", "sub", ()),))))
        self.no(program(("want", 1, ((None, "call", "x", ()),)), ("set", "x", 1)))

    def test_kinds_of_what_is_handed_in(self):
        for ones in (1, [1], (1,), [], None, "", "a", Strange()):
            self.no((errand((("want", 1, ((None, "call", "sub", ones),)),)), errand((), "sub", ("a", "b"))))
        self.no(program(("want", 1, ((None, "call", "main", []),))))
        self.no(program(("want", 1, ((None, "ask", "sun", (1,)),))))
        self.no(program(("want", 1, ((None, "ask", "sun", ()),))))


class Names(Words):
    def test_at_most_six_in_all(self):
        tells = tuple(("tell", name) for name in "abcdef")
        self.yes(program(*tells))
        self.no(program(*tells, ("tell", "g")))
        self.yes(program(*tells, ("tell", "a")))
        self.yes((errand(tells), errand((("tell", "g"),), "other")))

    def test_wherever_a_name_stands(self):
        five = (("tell", ("+", ("+", "a", "b"), ("+", ("+", "c", "d"), "e"))),)
        for make in (
            lambda name: ("set", name, 1), lambda name: ("set", "a", name), lambda name: ("tell", name),
            lambda name: ("fail", ("+", 1, name)), lambda name: ("give", ("+", name, 1)),
            lambda name: ("if", name, (), ()), lambda name: ("while", name, ()), lambda name: ("try", (), name, ()),
            lambda name: ("want", 1, ((name, "ask", "sun", 1),)), lambda name: ("want", 1, ((None, "ask", "sun", name),)),
            lambda name: ("want", 1, ((name, "call", "sub", (1,)),)),
            lambda name: ("want", 1, ((None, "call", "sub", (name,)),)),
            lambda name: ("do", (), (("tell", name),)), lambda name: ("if", 1, (), (("set", name, 1),)),
        ):
            sub = errand((), "sub", ("h",))
            self.yes((errand(five + (make("f"),)), sub))
            self.no((errand(five + (make("f"), make("g"))), sub))
            self.no((errand(five + (make("f"),), params=("p",)), sub))
            self.assertEqual(names_of(errand(five + (make("zz"),))), ("a", "b", "c", "d", "e", "zz"))

    def test_params_count_though_nothing_uses_them(self):
        tells = (("tell", ("+", ("+", "a", "b"), "c")),)
        self.yes((errand(tells, params=("d", "e", "f")),))
        self.no((errand(tells + (("tell", "g"),), params=("d", "e", "f")),))
        self.yes((errand(tells + (("tell", "g"), ("tell", "h")), params=("a", "b", "d")),))

    def test_whom_one_asks_and_what_one_calls_are_no_names(self):
        branches = tuple((None, "ask", who, 1) for who in ("g", "h", "i")) + ((None, "call", "main", ()),)
        row = ("want", 1, branches)
        self.yes(program(*(("tell", name) for name in "abcdef"), row))
        self.assertEqual(names_of(errand((row,))), ())

    def test_names_rise_and_none_stands_twice(self):
        self.assertEqual(names_of(WHOLE[0]), ("a", "b", "x", "y"))
        self.assertEqual(names_of(WHOLE[1]), ("p", "q"))
        self.assertEqual(names_of(WHOLE[2]), ())
        self.assertEqual(names_of(errand((("set", "b", "aa"),), params=("c", "ab"))), ("aa", "ab", "b", "c"))
        self.assertEqual(names_of(errand((), params=("z", "y"))), ("y", "z"))

    def test_names_of_all_kinds_of_rows(self):
        rows = (
            ("try", (("set", "b", "c"),), None, (("fail", "d"),)),
            ("while", "e", (("do", (("tell", "f"),), (("tell", ("*", "a", 1)),)),)),
        )
        self.assertEqual(names_of(errand(rows)), ("a", "b", "c", "d", "e", "f"))

    def test_nothing_is_changed_and_asked_again_the_same_is_told(self):
        before = copy.deepcopy(WHOLE)
        self.assertEqual(names_of(WHOLE[0]), names_of(WHOLE[0]))
        self.assertIs(type(names_of(WHOLE[0])), tuple)
        self.assertEqual(WHOLE, before)


class Errands(unittest.TestCase):
    def test_each_by_its_name(self):
        for one in WHOLE:
            self.assertEqual(errand_of(WHOLE, one[0]), one)
            self.assertEqual(errand_of(WHOLE, one[0]), one)

    def test_no_errand_of_the_name(self):
        for name in ("", "x", "a", "mai", "mainn", "Main", "tell"):
            for refusal in (NoErrand, ErrandError, ValueError):
                with self.assertRaises(refusal) as caught:
                    errand_of(WHOLE, name)
                self.assertIs(type(caught.exception), NoErrand)


if __name__ == "__main__":
    unittest.main()
