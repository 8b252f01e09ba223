"""Programs and things that are no programs, for several tests."""

TOP = 1000000006
NAMES = ("a", "b", "c", "x", "yy", "end")


def errand(block, name="main", params=()):
    return (name, params, block)


def program(*rows):
    """A program of the one errand main with these rows."""
    return (errand(tuple(rows)),)


def triples(deep):
    """An E whose triples stand so deep."""
    return 1 if deep == 0 else ("+", triples(deep - 1), "a")


def nested(deep, inner=("tell", 1)):
    """A row that stands so deep, in ifs."""
    return inner if deep == 1 else ("if", 1, (nested(deep - 1, inner),), ())


ASK = (None, "ask", "sun", 1)

OFF = ("off",)


def good(path, n=0):
    return ("answer", path, True, n)


def bad(path, n=0):
    return ("answer", path, False, n)


def some_event(dice, waits):
    kind = dice.random()
    if kind < 0.08:
        return OFF
    if kind < 0.15 or not waits:
        return good(tuple(dice.randrange(4) for _ in range(dice.choice((0, 2, 4, 6)))), 1)
    return ("answer", dice.choice(waits), dice.random() < 0.6, dice.choice((0, 1, 2, 7)))


def plain(value):
    if isinstance(value, tuple):
        return all(plain(part) for part in value)
    return value is None or type(value) in (int, str, bool)


WHOLE = (
    (
        "main",
        ("a", "b"),
        (
            ("set", "x", ("+", "a", ("*", 2, "b"))),
            ("do", (("want", 1, (("x", "ask", "bank", "x"), (None, "ask", "post", 0))),), (("tell", "x"),)),
            ("if", ("<", "x", TOP), (("tell", 1),), (("tell", 2), ("fail", 3))),
            ("while", "x", (("set", "x", ("-", "x", 1)),)),
            ("try", (("fail", 9),), "y", (("tell", "y"),)),
            ("try", (), None, ()),
            ("want", 2, (("x", "call", "sub", ("a", 1)), (None, "call", "none", ()), ("y", "ask", "sun", ("=", 1, 0)))),
            ("give", "x"),
        ),
    ),
    ("sub", ("p", "q"), (("give", ("+", "p", "q")),)),
    ("none", (), ()),
)

WHOLE_TEXT = """errand main a b
set x (a+(2*b))
do
want 1
x = ask bank x
ask post 0
end
undo
tell x
end
if (x<1000000006)
tell 1
else
tell 2
fail 3
end
while x
set x (x-1)
end
try
fail 9
catch y
tell y
end
try
catch
end
want 2
x = call sub a 1
call none
y = ask sun (1=0)
end
give x
end
errand sub p q
give (p+q)
end
errand none
end"""


class ProgramDice:
    """Makes programs by a random source that is handed in; lively ones seldom end early."""

    def __init__(self, dice, most_rows=24, lively=False):
        self.dice = dice
        self.most_rows = most_rows
        self.lively = lively

    def word(self):
        size = self.dice.choice((1, 2, 5, 8))
        return "".join(self.dice.choice("abcdefghijklmnopqrstuvwxyz") for _ in range(size))

    def formula(self, deep=3):
        kind = self.dice.randrange(4)
        if deep == 0 or kind == 0:
            return self.dice.choice((0, 0, 1, 1, 2, 3, 10, TOP))
        if kind == 1:
            return self.dice.choice(NAMES)
        if kind == 2:
            return (self.dice.choice("+-*<="), self.dice.choice(NAMES), self.dice.choice((0, 1, 2)))
        return (self.dice.choice("+-*<="), self.formula(deep - 1), self.formula(deep - 1))

    def name_or_none(self):
        return self.dice.choice(NAMES + (None, None))

    def branch(self):
        if self.dice.random() < 0.5:
            return (self.name_or_none(), "ask", self.dice.choice(("sun", "moon", "ask")), self.formula(1))
        name = self.dice.choice(sorted(self.counts))
        ones = tuple(self.formula(1) for _ in range(self.counts[name]))
        return (self.name_or_none(), "call", name, ones)

    def want(self):
        branches = tuple(self.branch() for _ in range(self.dice.randint(1, 4)))
        return ("want", self.dice.randint(1, len(branches)), branches)

    def row(self, deep, undoing):
        words = ["set", "tell", "tell", "fail", "want", "want", "want"] + ([] if undoing else ["give"])
        if deep < 4:
            words += ["if", "while", "try", "try", "do", "do", "do"]
        if self.lively and self.dice.random() < 0.85:
            words = [word for word in words if word not in ("fail", "give")]
        word = self.dice.choice(words)
        if word == "set":
            return ("set", self.dice.choice(NAMES), self.formula())
        if word in ("tell", "fail", "give"):
            return (word, self.formula())
        if word == "want":
            return self.want()
        first = self.block(deep + 1, undoing)
        if word == "while":
            return ("while", self.formula(), first)
        second = self.block(deep + 1, undoing or word == "do")
        if word == "if":
            return ("if", self.formula(), first, second)
        return ("try", first, self.name_or_none(), second) if word == "try" else ("do", first, second)

    def block(self, deep, undoing):
        rows = []
        for _ in range(self.dice.randint(0, 5 if deep == 1 else 3)):
            if self.left > 0:
                self.left -= 1
                rows.append(self.row(deep, undoing))
        return tuple(rows)

    def program(self):
        names = self.dice.sample(("main", "sub", "errand", "z"), self.dice.randint(1, 4))
        self.counts = {name: self.dice.randint(0, 3) for name in names}
        errands = []
        for name in names:
            self.left = self.most_rows
            params = tuple(self.dice.sample(NAMES, self.counts[name]))
            errands.append((name, params, self.block(1, False)))
        return tuple(errands)


class Strange:
    """A thing that can neither be compared, counted, walked nor hashed."""

    __hash__ = None

    def __eq__(self, other):
        raise RuntimeError("compared")

    def __len__(self):
        raise RuntimeError("counted")

    def __bool__(self):
        raise RuntimeError("asked for its truth")

    def __iter__(self):
        raise RuntimeError("walked")


def very_deep(first, times=100000):
    for _ in range(times):
        first = (first,)
    return first


def deep_triple(times=100000):
    one = 1
    for _ in range(times):
        one = ("+", one, 1)
    return one


def deep_rows(times=100000):
    row = ("tell", 1)
    for _ in range(times):
        row = ("if", 1, (row,), ())
    return row


OTHERS = (
    None, True, False, 0, 1, -1, 10**30, -(10**30), "", "a", "main", "\u00e9", [], {}, set(), (), (()), ((),),
    [1], {"a": 1}, {1}, frozenset((1,)), b"", b"abc", bytearray(b"x"), range(3), object(), Strange(), len, int,
    ValueError("x"), (1, 2, 3), ("a", "b", "C"), (None, None, None), ([], [], []),
    (Strange(), Strange(), Strange()), Ellipsis, NotImplemented, very_deep(()), deep_triple(), deep_rows(),
)
