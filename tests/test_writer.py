import copy
import unittest

from errandroom.writer import worth_text, written
from samples import ASK, TOP, WHOLE, WHOLE_TEXT, program


class WorthTexts(unittest.TestCase):
    def test_each_kind(self):
        for one, told in (
            (0, "0"), (7, "7"), (10, "10"), (TOP, "1000000006"), ("a", "a"), ("abcdefgh", "abcdefgh"),
            (("+", 1, 2), "(1+2)"), (("-", "a", 2), "(a-2)"), (("*", 1, "b"), "(1*b)"), (("<", "a", "b"), "(a<b)"),
            (("=", 0, 0), "(0=0)"), (("-", ("-", 1, 2), 3), "((1-2)-3)"), (("-", 1, ("-", 2, 3)), "(1-(2-3))"),
            (("*", ("+", ("<", "a", 1), 2), ("=", "x", ("-", 0, 1))), "(((a<1)+2)*(x=(0-1)))"),
        ):
            self.assertEqual(worth_text(one), told)
            self.assertEqual(worth_text(one), told)


class Written(unittest.TestCase):
    def rows(self, *rows):
        text = written(program(*rows))
        self.assertEqual(text[:12], "errand main\n")
        self.assertEqual(text[-4:], "\nend")
        return text[12:-4]

    def test_a_whole_program(self):
        self.assertEqual(written(WHOLE), WHOLE_TEXT)

    def test_errands(self):
        self.assertEqual(written((("a", (), ()),)), "errand a\nend")
        self.assertEqual(written((("a", ("p",), ()), ("b", ("q", "p", "r"), ()))), "errand a p\nend\nerrand b q p r\nend")
        self.assertEqual(written((("b", (), ()), ("a", (), ()))), "errand b\nend\nerrand a\nend")

    def test_short_rows(self):
        self.assertEqual(self.rows(("set", "x", ("+", "x", 1))), "set x (x+1)")
        self.assertEqual(self.rows(("tell", 5)), "tell 5")
        self.assertEqual(self.rows(("give", "x")), "give x")
        self.assertEqual(self.rows(("fail", 0)), "fail 0")
        self.assertEqual(self.rows(("tell", 1), ("tell", 2)), "tell 1\ntell 2")

    def test_if(self):
        self.assertEqual(self.rows(("if", "x", (), ())), "if x\nelse\nend")
        self.assertEqual(self.rows(("if", 1, (("tell", 1),), (("tell", 2), ("tell", 3)))), "if 1\ntell 1\nelse\ntell 2\ntell 3\nend")

    def test_while(self):
        self.assertEqual(self.rows(("while", ("<", "x", 3), ())), "while (x<3)\nend")
        self.assertEqual(self.rows(("while", 1, (("tell", 1), ("fail", 2)))), "while 1\ntell 1\nfail 2\nend")

    def test_try(self):
        self.assertEqual(self.rows(("try", (), None, ())), "try\ncatch\nend")
        self.assertEqual(self.rows(("try", (("fail", 1),), "x", (("tell", "x"),))), "try\nfail 1\ncatch x\ntell x\nend")

    def test_do(self):
        self.assertEqual(self.rows(("do", (), ())), "do\nundo\nend")
        self.assertEqual(self.rows(("do", (("tell", 1),), (("tell", 2),))), "do\ntell 1\nundo\ntell 2\nend")

    def test_want(self):
        self.assertEqual(self.rows(("want", 1, (ASK,))), "want 1\nask sun 1\nend")
        self.assertEqual(self.rows(("want", 2, (ASK, ("x", "ask", "moon", ("+", 1, "x"))))), "want 2\nask sun 1\nx = ask moon (1+x)\nend")
        self.assertEqual(self.rows(("want", 1, ((None, "call", "main", ()), ("y", "call", "main", ())))), "want 1\ncall main\ny = call main\nend")
        self.assertEqual(
            self.rows(("want", 1, (("ask", "call", "sub", (1, "a", ("-", "a", 1))),))), "want 1\nask = call sub 1 a (a-1)\nend"
        )

    def test_rows_within_rows(self):
        inner = ("do", (("while", 1, (("tell", 1),)),), (("try", (), "x", (("fail", 2),)),))
        self.assertEqual(
            self.rows(("if", 1, (inner,), ()), ("tell", 9)),
            "if 1\ndo\nwhile 1\ntell 1\nend\nundo\ntry\ncatch x\nfail 2\nend\nend\nelse\nend\ntell 9",
        )

    def test_no_line_end_at_the_end_and_no_needless_blank(self):
        text = written(WHOLE)
        self.assertNotIn("\n\n", text)
        self.assertNotIn("  ", text)
        self.assertEqual([line.strip() for line in text.split("\n")], text.split("\n"))

    def test_nothing_is_changed_and_asked_again_the_same_is_told(self):
        before = copy.deepcopy(WHOLE)
        self.assertEqual(written(WHOLE), written(WHOLE))
        self.assertEqual(WHOLE, before)


if __name__ == "__main__":
    unittest.main()
