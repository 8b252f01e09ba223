import copy
import random
import unittest

from errandroom.errors import ErrandError, NoText
from errandroom.programs import is_program
from errandroom.reader import read, read_worth
from errandroom.writer import worth_text, written
from samples import ASK, OTHERS, TOP, WHOLE, WHOLE_TEXT, ProgramDice, errand, nested, program, triples

SIGNS = "\n !()*+-<=>0129AZ_az|~%\t\r,.\u00e9"

# Each changed in all kinds of ways below; small ones, so that all places can be tried.
TEXTS = (
    "errand a\nend",
    "errand a b\nset b (b+1)\nend\nerrand c\nend",
    "errand a\nif 1\ntell 10\nelse\nend\nend",
    "errand a\nwhile (1<0)\ngive 0\nend\nend",
    "errand a\ntry\nfail 2\ncatch x\nend\nend",
    "errand a\ntry\ncatch\ntell 1\nend\nend",
    "errand a\ndo\ntell 1\nundo\nend\nend",
    "errand a\nwant 1\nx = ask b 1\nask c 0\nend\nend",
    "errand a p q\nwant 2\nx = call a 1 (p-q)\ncall a p q\nend\nend",
)


class Texts(unittest.TestCase):
    def refused(self, reads, value):
        for refusal in (NoText, ErrandError, ValueError):
            try:
                reads(value)
            except refusal as error:
                self.assertIs(type(error), NoText)
            else:
                self.fail("not refused: " + repr(value)[:300])


class Worths(Texts):
    def test_read_back_it_is_the_same(self):
        dice = ProgramDice(random.Random(1))
        ones = [0, 1, 9, 10, 19, 1000000000, TOP, "a", "z", "abcdefgh", "end", "ask"] + [triples(deep) for deep in range(4)]
        for one in ones + [dice.formula() for _ in range(500)]:
            self.assertEqual(read_worth(worth_text(one)), one)
            self.assertIs(type(read_worth(worth_text(one))), type(one))

    def test_each_sign(self):
        for sign in "+-*<=":
            self.assertEqual(read_worth("(a" + sign + "1)"), (sign, "a", 1))
        for sign in "/>&|^!,.;:~ %\n":
            self.refused(read_worth, "(a" + sign + "1)")

    def test_which_side_is_which(self):
        self.assertEqual(read_worth("((1-2)-(3*a))"), ("-", ("-", 1, 2), ("*", 3, "a")))
        self.assertEqual(read_worth("(1-((2-3)<b))"), ("-", 1, ("<", ("-", 2, 3), "b")))

    def test_bounds(self):
        self.assertEqual(read_worth("1000000006"), TOP)
        for text in ("1000000007", "9999999999", "10000000060", "9" * 5000, "0" * 5000, "abcdefghi", "z" * 20000):
            self.refused(read_worth, text)
            self.refused(read_worth, "(" + text + "+1)")
            self.refused(read_worth, "(1+" + text + ")")

    def test_needless_noughts(self):
        for text in ("00", "01", "007", "(1+00)", "(01+1)", "+1", "-1", "-0", "1_0", "1e3", "1.0", "0x1", "0000000001"):
            self.refused(read_worth, text)

    def test_needless_blanks_and_signs(self):
        for text in (
            "", " ", "\n", " 1", "1 ", "1\n", "\n1", "(1 +2)", "(1+ 2)", "( 1+2)", "(1+2 )", "(1+2) ", "(1)", "(a)", "()",
            "((1+2))", "1+2", "(1+2", "1+2)", "(1+2))", "((1+2)", "(1++2)", "(+1)", "(1+)", "(+)", "(1+2+3)", "(12)", "(a1)",
            "a1", "1a", "A", "aB", "a b", "a,b", "(", ")", "+", "=", "(1+2)3", "a(1+2)", "(1=2=3)", "(1<=2)", "(1==2)",
            "\u0661", "\u00b2", "\u00e9", "\uff11", "a\u0000", "1\r", "1\x0b", "%", "(1%2)",
        ):
            self.refused(read_worth, text)

    def test_how_deep(self):
        text = "1"
        for deep in range(1, 12):
            text = "(" + text + "+a)"
            if deep <= 3:
                self.assertEqual(worth_text(read_worth(text)), text)
            else:
                self.refused(read_worth, text)
        self.refused(read_worth, "(1+(1+(1+(1+1))))")
        self.assertEqual(read_worth("((1+(1+1))+((1+1)+1))"), ("+", ("+", 1, ("+", 1, 1)), ("+", ("+", 1, 1), 1)))

    def test_very_deep(self):
        for text in (
            "(" * 20000, "(" * 4000 + "1" + "+1)" * 4000, "(1+" * 6000, "(1+" * 4000 + "1" + ")" * 4000, ")" * 20000,
            "(1+1" * 5000, "()" * 10000, "(" * 10000 + ")" * 10000,
        ):
            self.refused(read_worth, text)
            self.refused(read, "errand a\ntell " + text + "\nend")

    def test_what_is_no_text(self):
        for value in OTHERS:
            if not isinstance(value, str):
                self.refused(read_worth, value)

    def test_one_sign_changed(self):
        for text in ("(a+(10*bc))", "((1<x)-0)", "1000000006", "abcdefgh"):
            for changed in changes(text):
                only_if_it_is_written_so(self, read_worth, worth_text, text, changed)


class Programs(Texts):
    def test_a_whole_one(self):
        self.assertEqual(read(WHOLE_TEXT), WHOLE)

    def test_small_ones(self):
        for text in TEXTS:
            self.assertEqual(written(read(text)), text)
        self.assertEqual(read(TEXTS[1]), (("a", ("b",), (("set", "b", ("+", "b", 1)),)), ("c", (), ())))
        self.assertEqual(read(TEXTS[2]), (("a", (), (("if", 1, (("tell", 10),), ()),)),))
        self.assertEqual(read(TEXTS[3]), (("a", (), (("while", ("<", 1, 0), (("give", 0),)),)),))
        self.assertEqual(read(TEXTS[4]), (("a", (), (("try", (("fail", 2),), "x", ()),)),))
        self.assertEqual(read(TEXTS[5]), (("a", (), (("try", (), None, (("tell", 1),)),)),))
        self.assertEqual(read(TEXTS[6]), (("a", (), (("do", (("tell", 1),), ()),)),))
        self.assertEqual(read(TEXTS[7]), (("a", (), (("want", 1, (("x", "ask", "b", 1), (None, "ask", "c", 0))),)),))
        branches = (("x", "call", "a", (1, ("-", "p", "q"))), (None, "call", "a", ("p", "q")))
        self.assertEqual(read(TEXTS[8]), (("a", ("p", "q"), (("want", 2, branches),)),))

    def test_many_read_back_to_the_same(self):
        for seed in range(400):
            value = ProgramDice(random.Random(seed)).program()
            self.assertEqual(read(written(value)), value)

    def test_names_like_the_words_of_rows(self):
        words = ("errand", "set", "tell", "give", "fail", "if", "else", "end", "while", "try", "catch", "do", "undo", "want", "ask", "call")
        for word in words:
            branches = (
                (word, "ask", word, word), (None, "ask", word, word), (word, "call", word, (word,)), (None, "call", word, (word,)),
            )
            rows = (("set", word, word), ("try", (("tell", word),), word, ()), ("want", 4, branches))
            value = ((word, (word,), rows),)
            self.assertTrue(is_program(value))
            self.assertEqual(read(written(value)), value)

    def test_one_sign_changed_left_out_or_put_in(self):
        for text in TEXTS:
            for changed in changes(text):
                only_if_it_is_written_so(self, read, written, text, changed)

    def test_one_sign_of_a_whole_one(self):
        dice = random.Random(2)
        every = changes(WHOLE_TEXT)
        for changed in dice.sample(every, 3000):
            only_if_it_is_written_so(self, read, written, WHOLE_TEXT, changed)

    def test_lines_left_out_doubled_or_moved(self):
        for text in TEXTS + (WHOLE_TEXT,):
            lines = text.split("\n")
            for i in range(len(lines)):
                others = [lines[:i] + lines[i + 1:], lines[:i] + [lines[i]] + lines[i:]]
                for j in range(len(lines)):
                    moved = lines[:i] + lines[i + 1:]
                    others.append(moved[:j] + [lines[i]] + moved[j:])
                for other in others:
                    only_if_it_is_written_so(self, read, written, text, "\n".join(other))

    def test_lines_left_out_that_must_stand(self):
        for text in TEXTS:
            lines = text.split("\n")
            for i, line in enumerate(lines):
                if line.split(" ")[0] in ("end", "else", "catch", "undo", "errand", "if", "while", "try", "do", "want"):
                    self.refused(read, "\n".join(lines[:i] + lines[i + 1:]))

    def test_beginnings_and_rests(self):
        for at in range(1, len(WHOLE_TEXT)):
            if not WHOLE_TEXT[at:].startswith("\nerrand "):
                self.refused(read, WHOLE_TEXT[:at])
            if not WHOLE_TEXT[at:].startswith("errand "):
                self.refused(read, WHOLE_TEXT[at:])

    def test_needless_blanks_and_line_ends(self):
        for text in (
            "", "\n", " ", "errand a\nend\n", "\nerrand a\nend", "errand a\n\nend", "errand  a\nend", " errand a\nend",
            "errand a \nend", "errand a\nend ", "errand a\n end", "errand a\r\nend", "errand a\rend", "errand\ta\nend",
            "errand a\n tell 1\nend", "errand a\ntell 1 \nend", "errand a\ntell  1\nend", "errand a\x0btell 1\nend",
            "errand a\u2028end", "errand a\x0cend", "errand a end", "errand a\nend end", "errand a\nend a",
        ):
            self.refused(read, text)

    def test_needless_noughts_and_words(self):
        for row in (
            "tell 00", "tell 01", "tell", "tell 1 2", "tell (1)", "tell 1.0", "tell -1", "tell +1", "give", "give 1 2",
            "fail", "fail 1 2", "set x", "set 1", "set x 1 2", "set 1 x", "set X 1", "set x = 1", "set", "Tell 1", "put 0 1",
            "x = 1", "tell %", "end", "else", "undo", "catch", "ask sun 1", "call a", "mark do 0", "errand b",
        ):
            self.refused(read, "errand a\n" + row + "\nend")
        for rows in (
            "if\nelse\nend", "if 1\nend", "if 1 2\nelse\nend", "if 1\nelse\nelse\nend", "if 1\nelse x\nend",
            "if 1\nelse\nend end", "if 1\ncatch\nend", "if 1\nundo\nend", "if 1\nelse\nundo", "if 1\nelse\nelse",
            "while\nend", "while 1\nelse\nend", "while 1\nelse", "while 1\nundo", "while 1\ncatch", "while 1\nend 1",
            "try 1\ncatch\nend", "try\ncatch x y\nend", "try\ncatch 1\nend", "try\ncatch X\nend", "try\nend", "try\nelse\nend",
            "try\ncatch\ncatch\nend", "try\nundo\nend", "try\ncatch \nend", "try\ncatch\nelse",
            "do x\nundo\nend", "do\nend", "do\nundo x\nend", "do\nelse\nend", "do\ncatch\nend", "do\nundo\nundo\nend", "do\nundo\nundo",
            "want\nask b 1\nend", "want 0\nask b 1\nend", "want 2\nask b 1\nend", "want 01\nask b 1\nend", "want x\nask b 1\nend",
            "want 1 1\nask b 1\nend", "want 1\nend", "want 1\nask b\nend", "want 1\nask b 1 2\nend", "want 1\nask\nend",
            "want 1\nx =\nend", "want 1\nx = ask b\nend", "want 1\n= ask b 1\nend", "want 1\nx ask b 1\nend",
            "want 1\nx= ask b 1\nend", "want 1\nx = y = ask b 1\nend", "want 1\n1 = ask b 1\nend", "want 1\nX = ask b 1\nend",
            "want 1\ncall\nend", "want 1\ncall a 1\nend", "want 1\ncall b\nend", "want 1\nx = call\nend", "want 1\nx = tell 1\nend",
            "want 1\ntell 1\nend", "want 1\nask 1 b\nend", "want 1\nask B 1\nend", "want 1\nask b 1\nend end", "want 1\n\nend",
            "want 1\nask b 1\nelse", "want 1\nask b 1\nundo", "want (1+0)\nask b 1\nend", "want 1\nNone = ask b 1\nend",
        ):
            self.refused(read, "errand a\n" + rows + "\nend")
        for text in (
            "errand\nend", "errand 1\nend", "errand A\nend", "errand a 1\nend", "errand a b b\nend", "errand a\nelse",
            "errand a\nundo", "errand a\ncatch", "a\nend", "end", "errand a", "tell 1", "errand a\nend\nerrand a\nend",
            "errand a\nend\ntell 1", "errand a\nend\nend", "errand a b c d e\nend", "errands a\nend", "errand a\nend\nerrand b",
        ):
            self.refused(read, text)

    def test_bounds_of_programs(self):
        tell = ("tell", 1)
        give = ("give", 1)
        eights = (("if", 1, (tell,) * 8, (tell,) * 8), ("while", 1, (tell,) * 4))
        self.check(tuple(errand((), name) for name in "abcdef"), tuple(errand((), name) for name in "abcdefg"))
        self.check((errand((), params=("a", "b", "c")),), (errand((), params=("a", "b", "c", "d")),))
        self.check((errand((), "abcdefgh"),), (errand((), "abcdefghi"),))
        self.check(program(*[tell] * 8), program(*[tell] * 9))
        self.check(program(*eights, tell, tell), program(*eights, tell, tell, tell))
        self.check(program(*[("tell", name) for name in "abcdef"]), program(*[("tell", name) for name in "abcdefg"]))
        self.check(program(nested(4)), program(nested(5)))
        self.check(program(nested(4, ("do", (), ()))), program(nested(5, ("do", (), ()))))
        self.check(program(("tell", triples(3))), program(("tell", triples(4))))
        self.check(program(("tell", TOP)), program(("tell", TOP + 1)))
        self.check(program(("want", 4, (ASK,) * 4)), program(("want", 4, (ASK,) * 5)))
        self.check(program(("want", 2, (ASK,) * 2)), program(("want", 3, (ASK,) * 2)))
        self.check(program(("want", 1, (ASK,) * 2)), program(("want", 0, (ASK,) * 2)))
        self.check(program(("do", (give,), ())), program(("do", (), (give,))))
        self.check(program(("do", (nested(3, give),), ())), program(("do", (), (nested(3, give),))))
        call = lambda *ones: errand((("want", 1, ((None, "call", "sub", ones),)),))
        sub = errand((), "sub", ("a", "b"))
        self.check((call(1, 2), sub), (call(1), sub))
        self.check((call(1, 2), sub), (call(1, 2, 3), sub))
        self.check((call(1, 2), sub), (call(1, 2),))

    def check(self, at, beyond):
        self.assertEqual(read(written(at)), at)
        self.refused(read, written(beyond))

    def test_rows_very_deep(self):
        for begins, ends in (
            ("do\n", "undo\nend\n"), ("if 1\n", "else\nend\n"), ("while 1\n", "end\n"), ("try\n", "catch\nend\n"),
            ("if 1\nelse\n", "end\n"), ("do\nundo\n", "end\n"), ("try\ncatch x\n", "end\n"), ("errand a\n", "end\n"),
            ("want 1\n", "end\n"),
        ):
            times = 19000 // (len(begins) + len(ends))
            self.refused(read, "errand a\n" + begins * times + ends * times + "end")
            self.refused(read, "errand a\n" + begins * times + "tell 1\n" + ends * times + "end")
            self.refused(read, "errand a\n" + begins * (19000 // len(begins)) + "end")
            self.refused(read, "errand a\n" + begins * (19000 // len(begins)))
            self.refused(read, "errand a\n" + ends * (19000 // len(ends)))

    def test_rows_very_many(self):
        for row in ("tell 1\n", "do\nundo\nend\n", "want 1\nask b 1\nend\n"):
            self.refused(read, "errand a\n" + row * (19000 // len(row)) + "end")
        self.refused(read, "errand a\nwant 1\n" + "ask b 1\n" * 2000 + "end\nend")
        self.refused(read, "errand a\nend\n" * 1500 + "errand b\nend")
        self.refused(read, "errand " + "a " * 9000 + "a\nend")

    def test_longer_texts_are_read_too(self):
        one = ("+", ("+", ("+", TOP, TOP), ("+", TOP, TOP)), ("+", ("+", TOP, TOP), ("+", TOP, TOP)))
        branches = ((None, "call", "main", (one, one, one)),) * 4
        value = (errand((("want", 1, branches),) * 8, params=("a", "b", "c")),)
        value += (errand((("want", 1, branches),) * 8, "other"),)
        self.assertGreater(len(written(value)), 15000)
        self.assertEqual(read(written(value)), value)

    def test_what_is_no_text(self):
        for value in OTHERS + (WHOLE, tuple(WHOLE_TEXT), WHOLE_TEXT.encode(), [WHOLE_TEXT], WHOLE_TEXT.split("\n")):
            if not isinstance(value, str):
                self.refused(read, value)

    def test_nothing_is_changed_and_asked_again_the_same_is_told(self):
        lines = WHOLE_TEXT.split("\n")
        before = copy.deepcopy(lines)
        self.refused(read, lines)
        self.assertEqual(lines, before)
        self.assertEqual(read(WHOLE_TEXT), read(WHOLE_TEXT))
        self.refused(read, "errand a\n")
        self.refused(read, "errand a\n")


def changes(text):
    """The text with one sign changed, left out, doubled or put in."""
    found = []
    for at in range(len(text) + 1):
        found.extend(text[:at] + sign + text[at:] for sign in SIGNS)
        if at < len(text):
            found.append(text[:at] + text[at + 1:])
            found.append(text[:at] + text[at] + text[at:])
            found.extend(text[:at] + sign + text[at + 1:] for sign in SIGNS)
            found.append(text[:at] + text[at + 1:at + 2] + text[at] + text[at + 2:])
    return found


def only_if_it_is_written_so(test, reads, writes, text, changed):
    try:
        value = reads(changed)
    except NoText:
        test.assertNotEqual(changed, text)
    else:
        test.assertEqual(writes(value), changed)
        if reads is read:
            test.assertTrue(is_program(value))
        if changed != text:
            test.assertNotEqual(value, reads(text))


if __name__ == "__main__":
    unittest.main()
