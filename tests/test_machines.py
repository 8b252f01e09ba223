import copy
import random
import unittest

from errandroom.errors import ErrandError, NoErrand
from errandroom.machines import is_machines, machine_of
from samples import OTHERS, TOP, Strange, deep_triple

GIVE = ("give", 0)
END = ((), GIVE, None, None)
ASK = (None, "ask", "sun", 1)


def room(door, rows=(), fall=None, off=None):
    return (rows, door, fall, off)


def machine(rooms, name="main", many=1, slots=3):
    return (name, many, slots, tuple(rooms))


def one(*rooms):
    """Machines of one machine with three slots and these rooms."""
    return (machine(rooms),)


def slots_of(deep):
    return ("slot", 2) if deep == 0 else ("+", slots_of(deep - 1), 1)


NOT_WORDS = ("", "A", "a1", "a b", "abcdefghi", "\u00e9", 1, None, True, ("a",), b"a", Strange())
NOT_NUMBERS = (None, True, False, -1, "0", "a", (0,), [0], b"", ("slot", 0), 10**30, Strange())
NOT_FORMULAS = (
    None, True, False, -1, TOP + 1, 10**40, "", "a", "x", "slot", (), ("slot",), ("slot", 3), ("slot", -1), ("slot", True),
    ("slot", None), ("slot", "a"), ("slot", 0, 1), ["slot", 0], ("Slot", 0), ("name", 0), (0, "slot"), (None, 0), ("slot", ("slot", 0)),
    ("slot", 10**30), ("+", 1), ("+", 1, 2, 3), ["+", 1, 2], ("/", 1, 2), ("", 1, 2), ("+-", 1, 2), ("+", 1, "a"), ("+", "a", 1),
    ("+", ("slot", 3), 1), ("+", 1, ("slot", 3)), ("+", True, 1), (Strange(), 0), (Strange(), 1, 2), Strange(), deep_triple(),
)

ORDINARY = (
    (
        "main", 1, 3,
        (
            ((("put", 1, ("+", ("slot", 0), 1)), ("mark", "do", 0)), ("want", 1, ((2, "ask", "sun", ("slot", 1)), (None, "call", "sub", (1, 2))), 1), (2, 2), 2),
            ((("mark", "done", 0), ("tell", ("slot", 2))), ("fork", ("slot", 2), 3, 4), None, None),
            ((("mark", "undo", 0), ("mark", "undone", 0)), ("out", 2), None, None),
            ((), ("round", 1), (None, 4), "shut"),
            ((), ("give", ("slot", 0)), None, None),
        ),
    ),
    ("sub", 2, 2, (((), ("fail", ("*", ("slot", 0), ("slot", 1))), None, None),)),
)


class Checks(unittest.TestCase):
    def yes(self, value):
        self.assertIs(is_machines(value), True, repr(value)[:300])

    def no(self, value):
        # What is none may be too deep to be shown.
        self.assertIs(is_machines(value), False)


class Machines(Checks):
    def test_ordinary_ones(self):
        self.yes(ORDINARY)
        self.yes(one(END))

    def test_other_things(self):
        for value in OTHERS:
            self.no(value)
            self.no((value,))
            self.no((machine((END,)), value))
            self.no((("main", 0, 0, value),))
            self.no((("main", 0, 0, (value,)),))
            self.no((("main", 0, 0, ((value, GIVE, None, None),)),)) if not same(value, ()) else None
            self.no((("main", 0, 0, (((value,), GIVE, None, None),)),))
            self.no((("main", 0, 0, (((), value, None, None),)),))
            self.no((("main", 0, 0, (((), GIVE, value, None),)),)) if value is not None else None
            self.no((("main", 0, 0, (((), GIVE, None, value),)),)) if value is not None and not same(value, 0) else None

    def test_kinds_of_its_parts(self):
        self.no(list(ORDINARY))
        self.no((list(machine((END,))),))
        self.no(machine((END,)))
        self.no((machine((END,))[:3],))
        self.no((machine((END,)) + (None,),))
        self.no((("main", 0, 0, [END]),))
        self.no((("main", 0, 0, (list(END),)),))
        self.no((("main", 0, 0, (([], GIVE, None, None),)),))
        self.no((("main", 0, 0, (((), list(GIVE), None, None),)),))
        self.no((("main", 0, 0, (((), GIVE, None),)),))
        self.no((("main", 0, 0, (((), GIVE, None, None, None),)),))

    def test_count_and_names(self):
        many = tuple(machine((END,), name) for name in "abcdefg")
        self.no(())
        for count in range(1, 7):
            self.yes(many[:count])
        self.no(many)
        self.no((machine((END,), "a"), machine((END, END), "a", 0, 0)))
        self.no((machine((END,), "a"), machine((END,), "b"), machine((END,), "a")))
        self.yes((machine((END,), "abcdefgh"),))
        for name in NOT_WORDS:
            self.no((machine((END,), name),))

    def test_slots(self):
        for slots in range(33):
            self.yes((machine((END,), many=0, slots=slots),))
        for slots in (33, 34, -1, 10**30) + NOT_NUMBERS:
            self.no((machine((END,), many=0, slots=slots),))
        self.no((machine((END,), many=0, slots=("slot", 0)),))

    def test_how_many_are_handed_in(self):
        for many in range(6):
            for slots in range(6):
                (self.yes if many <= slots and many <= 3 else self.no)((machine((END,), many=many, slots=slots),))
        for many in NOT_NUMBERS:
            self.no((machine((END,), many=many, slots=5),))

    def test_count_of_rooms(self):
        self.no(one())
        self.yes(one(*[END] * 160))
        self.no(one(*[END] * 161))
        self.yes((machine([END] * 160, "a"), machine([END] * 160, "b")))
        self.no((machine([END] * 160, "a"), machine([END] * 161, "b")))

    def test_asked_again_the_same_is_told_and_nothing_changed(self):
        before = copy.deepcopy(ORDINARY)
        self.yes(ORDINARY)
        self.yes(ORDINARY)
        self.assertEqual(ORDINARY, before)
        mixed = (["main", 0, 0, [END]],)
        before = copy.deepcopy(mixed)
        self.no(mixed)
        self.no(mixed)
        self.assertEqual(mixed, before)


class Rows(Checks):
    def test_count_of_rows(self):
        tell = ("tell", 1)
        self.yes(one(room(GIVE, (tell,) * 60)))
        self.no(one(room(GIVE, (tell,) * 61)))
        self.yes(one(*[room(GIVE, (tell,) * 60)] * 160))

    def test_every_row(self):
        rows = (("put", 0, 1), ("put", 2, ("slot", 1)), ("tell", 1), ("tell", ("slot", 0)), ("mark", "do", 0))
        for row in rows:
            self.yes(one(room(GIVE, (row,))))
            for wrong in (row[:-1], row + (0,), list(row), (row[0].upper(),) + row[1:], (row[0] + " ",) + row[1:], row[:1], row[1:]):
                self.no(one(room(GIVE, (wrong,))))
                self.no(one(room(GIVE, rows + (wrong,))))

    def test_unknown_rows(self):
        for word in ("set", "give", "fail", "go", "want", "", None, 1, b"tell", Strange()):
            for parts in ((), (1,), (0, 1), ("do", 0)):
                self.no(one(room(GIVE, ((word,) + parts,))))

    def test_put(self):
        for slot in range(3):
            self.yes(one(room(GIVE, (("put", slot, 1),))))
        for slot in (3, 4) + NOT_NUMBERS:
            self.no(one(room(GIVE, (("put", slot, 1),))))
        self.no((machine((room(GIVE, (("put", 0, 1),)),), many=0, slots=0),))
        self.yes((machine((room(GIVE, (("put", 31, ("slot", 31)),)),), slots=32),))

    def test_mark(self):
        for word in ("do", "done", "undo", "undone"):
            for number in range(24):
                self.yes(one(room(GIVE, (("mark", word, number),))))
            for number in (24, 25) + NOT_NUMBERS:
                self.no(one(room(GIVE, (("mark", word, number),))))
        for word in ("tell", "", "Do", "und", "done ", None, 1, ("do",), b"do", Strange()):
            self.no(one(room(GIVE, (("mark", word, 0),))))


class Formulas(Checks):
    def with_formula(self, formula):
        sub = machine((END,), "sub", 2, 2)
        return (
            one(room(GIVE, (("put", 0, formula),))), one(room(GIVE, (("tell", formula),))), one(room(("give", formula))),
            one(room(("fail", formula))), one(room(("fork", formula, 1, 1)), END),
            one(room(("want", 1, ((None, "ask", "sun", formula),), 0))),
            (machine((room(("want", 1, ((None, "call", "sub", (1, formula)),), 0)),)), sub),
            (machine((room(("want", 1, ((None, "call", "sub", (formula, 1)),), 0)),)), sub),
        )

    def test_right_ones(self):
        for formula in (0, TOP, ("slot", 0), ("slot", 2), ("+", 1, ("slot", 2)), ("<", ("-", 1, ("slot", 0)), ("=", 1, ("*", 2, 3)))):
            for value in self.with_formula(formula):
                self.yes(value)

    def test_wrong_ones(self):
        for formula in NOT_FORMULAS:
            for value in self.with_formula(formula):
                self.no(value)

    def test_how_deep(self):
        for deep in range(7):
            for value in self.with_formula(slots_of(deep)):
                (self.yes if deep <= 3 else self.no)(value)

    def test_slots_are_those_of_the_own_machine(self):
        tells = room(GIVE, (("tell", ("slot", 2)),))
        self.yes((machine((tells,), "a", 0, 3), machine((END,), "b", 0, 0)))
        self.no((machine((tells,), "a", 0, 2), machine((END,), "b", 0, 3)))
        self.no((machine((END,), "a", 0, 3), machine((tells,), "b", 0, 2)))


class Doors(Checks):
    def test_every_door(self):
        doors = (
            ("go", 1), ("fork", 1, 1, 1), ("round", 1), ("give", 1), ("fail", 1), ("out", 0), ("want", 1, (ASK,), 1),
        )
        for door in doors:
            self.yes(one(room(door), END))
            for wrong in (
                door[:-1], door + (1,), list(door), (door[0].upper(),) + door[1:], (door[0] + " ",) + door[1:], door[:1], door[1:],
                (None,) + door[1:], (Strange(),) + door[1:], None, (), door[0],
            ):
                self.no(one(room(wrong), END))
                self.no(one(END, room(wrong)))

    def test_unknown_doors(self):
        for word in ("set", "tell", "put", "shut", "", "if", b"go", 1):
            for parts in ((), (1,), (1, 1), (1, 1, 1), (1, (ASK,), 1)):
                self.no(one(room((word,) + parts), END))

    def test_rooms_that_doors_name(self):
        for make in (
            lambda r: ("go", r), lambda r: ("fork", 1, r, 1), lambda r: ("fork", 1, 1, r), lambda r: ("round", r),
            lambda r: ("want", 1, (ASK,), r),
        ):
            self.yes(one(room(make(1)), END, END))
            self.yes(one(room(make(2)), END, END))
            for number in (3, 4) + NOT_NUMBERS:
                self.no(one(room(make(number)), END, END))
            self.yes(one(room(make(159)), *[END] * 159))
            self.no(one(room(make(160)), *[END] * 159))

    def test_out(self):
        for slot in range(3):
            self.yes(one(room(("out", slot))))
        for slot in (3,) + NOT_NUMBERS:
            self.no(one(room(("out", slot))))

    def test_wants(self):
        self.no(one(room(("want", 1, (), 0))))
        for count in range(1, 5):
            self.yes(one(room(("want", 1, (ASK,) * count, 0))))
            self.yes(one(room(("want", count, (ASK,) * count, 0))))
            self.no(one(room(("want", count + 1, (ASK,) * count, 0))))
            self.no(one(room(("want", 0, (ASK,) * count, 0))))
        self.no(one(room(("want", 1, (ASK,) * 5, 0))))
        for least in NOT_NUMBERS:
            self.no(one(room(("want", least, (ASK,), 0))))
        for branches in ([ASK], ASK, None, "a", (list(ASK),), (ASK, None), (ASK[:3],), (ASK + (1,),), Strange()):
            self.no(one(room(("want", 1, branches, 0))))

    def test_branches(self):
        for slot in (0, 1, 2, None):
            self.yes(one(room(("want", 1, ((slot, "ask", "sun", 1),), 0))))
        for slot in (3, "a", "x") + NOT_NUMBERS[1:]:
            self.no(one(room(("want", 1, ((slot, "ask", "sun", 1),), 0))))
            self.no(one(room(("want", 1, ((slot, "call", "main", (1,)),), 0))))
        for who in NOT_WORDS:
            self.no(one(room(("want", 1, ((None, "ask", who, 1),), 0))))
            self.no(one(room(("want", 1, ((None, "call", who, (1,)),), 0))))
        for word in ("", "Ask", "tell", None, 1, Strange()):
            self.no(one(room(("want", 1, ((None, word, "main", 1),), 0))))
            self.no(one(room(("want", 1, ((None, word, "main", (1,)),), 0))))

    def test_calls(self):
        for many in range(4):
            for handed in range(5):
                sub = machine((END,), "sub", many, 3)
                value = (machine((room(("want", 1, ((None, "call", "sub", (1,) * handed),), 0)),)), sub)
                (self.yes if many == handed else self.no)(value)
                (self.yes if many == handed else self.no)((value[1], value[0]))
        self.yes(one(room(("want", 1, ((None, "call", "main", (1,)),), 0))))
        self.no(one(room(("want", 1, ((None, "call", "sub", (1,)),), 0))))
        for ones in ([1], 1, None, "a", Strange()):
            self.no(one(room(("want", 1, ((None, "call", "main", ones),), 0))))


class FallsAndOffs(Checks):
    DOORS = (("go", 1), ("fork", 1, 1, 1), ("round", 1), ("give", 1), ("fail", 1), ("out", 0), ("want", 1, (ASK,), 1))

    def test_falls(self):
        for door in self.DOORS:
            for fall in (None, (None, 1), (0, 1), (2, 2)):
                self.yes(one(room(door, fall=fall), END, END))
            for fall in (
                (), (1,), (0, 1, 2), [0, 1], (3, 1), (-1, 1), (0, 3), (0, -1), (0, None), (True, 1), (0, True), ("a", 1), (0, "a"),
                1, 0, "shut", "", "a", ((0,), 1), (Strange(), 1), (0, Strange()), Strange(), True, False, (0, 10**30),
            ):
                self.no(one(room(door, fall=fall), END, END))

    def test_offs(self):
        for door in self.DOORS:
            for off in (None, "shut", 1, 2):
                self.yes(one(room(door, off=off), END, END))
            for off in (3, -1, True, False, "", "Shut", "shut ", "a", "1", (1,), (), [1], (None, 1), b"shut", 10**30, Strange()):
                self.no(one(room(door, off=off), END, END))

    def test_bounds(self):
        self.yes((machine([room(("out", 31), fall=(31, 159), off=159)] + [END] * 159, slots=32),))
        self.no((machine([room(("out", 31), fall=(32, 159), off=159)] + [END] * 159, slots=32),))
        self.no((machine([room(("out", 31), fall=(31, 160), off=159)] + [END] * 159, slots=32),))
        self.no((machine([room(("out", 31), fall=(31, 159), off=160)] + [END] * 159, slots=32),))


def leads(to):
    """A room for each kind of way by which one leads to that room in the same hour."""
    return (
        room(("go", to)), room(("fork", 1, to, 159)), room(("fork", 1, 159, to)), room(("fork", 1, to, to)),
        room(("fail", 1), fall=(0, to)), room(("fail", 1), fall=(None, to)), room(("round", 159), fall=(0, to)),
        room(("want", 1, (ASK,), 159), fall=(0, to)), room(("want", 1, (ASK,), 159), off=to), room(("out", 0), fall=(0, to)),
        room(("out", 0), off=to), room(("out", 0), fall=(1, to), off="shut"), room(("out", 0), fall=(0, 159), off=to),
        room(("want", 1, (ASK,), 159), fall=(0, 159), off=to), room(("want", 1, (ASK,), 159), fall=(0, to), off=159),
    )


def others(to):
    """A room for each kind of way that takes a round or a want, or is never gone."""
    return (
        room(("round", to)), room(("want", 1, (ASK,), to)), room(("want", 1, (ASK,), to), off="shut"), room(("give", 1), fall=(0, to)),
        room(("give", 1), off=to), room(("go", 159), fall=(0, to)), room(("go", 159), off=to), room(("fork", 1, 159, 159), fall=(0, to)),
        room(("fork", 1, 159, 159), off=to), room(("fail", 1), off=to), room(("round", 159), off=to), room(("round", to), off=to),
        room(("fail", 1), fall=(0, 159), off=to),
    )


def filled(rooms):
    return one(*(list(rooms) + [END] * (160 - len(rooms))))


class Rings(Checks):
    def test_of_one_room(self):
        for ring in leads(0):
            self.no(filled([ring]))
        for free in others(0):
            self.yes(filled([free]))

    def test_of_two_rooms_by_each_pair_of_ways(self):
        for first in leads(1):
            for second in leads(0):
                self.no(filled([first, second]))
            for second in others(0):
                self.yes(filled([first, second]))
                self.yes(filled([second, END]))
        for first in leads(1):
            self.yes(filled([first, END]))

    def test_apart_from_room_0(self):
        for ring in leads(7):
            self.no(filled([END] * 7 + [ring]))
        for first, second in zip(leads(9), leads(4)):
            self.no(filled([END] * 4 + [first] + [END] * 4 + [second]))

    def test_in_the_second_machine(self):
        for ring in leads(0):
            rooms = [ring] + [END] * 159
            self.no((machine([END], "a"), machine(rooms, "b")))
            self.no((machine(rooms, "a"), machine([END], "b")))

    def test_rooms_of_other_machines_make_no_ring(self):
        self.yes((machine([room(("go", 1)), END], "a"), machine([END, room(("go", 0))], "b")))

    def test_long_chains(self):
        for kind in range(len(leads(0))):
            chain = [leads(i + 1)[kind] for i in range(159)]
            self.yes(one(*chain, END))
            self.no(one(*chain, leads(0)[kind]))
            self.no(one(*chain, leads(80)[kind]))
            back = [END] + [leads(i)[kind] for i in range(159)]
            back = back[:-1] + [END]
            self.yes(one(*back))

    def test_chains_backwards(self):
        rooms = [END] + [room(("go", i)) for i in range(159)]
        self.yes(one(*rooms))
        self.no(one(room(("go", 159)), *rooms[1:]))
        self.no(one(END, room(("go", 159)), *rooms[2:]))

    def test_many_ways_to_one_room_are_no_ring(self):
        self.yes(one(room(("fork", 1, 1, 2)), room(("go", 3)), room(("go", 3)), END))
        ladder = [room(("fork", 1, i + 1, min(i + 2, 159))) for i in range(159)] + [END]
        self.yes(one(*ladder))
        self.no(one(*ladder[:-1], room(("go", 100))))

    def test_by_dice(self):
        dice = random.Random(3)
        told = {True: 0, False: 0}
        for _ in range(400):
            count = dice.randint(1, 8)
            rooms, ways = [], []
            for number in range(count):
                to = dice.randrange(count)
                door = dice.choice((("go", to), ("round", to), GIVE, ("fail", 1), ("out", 0), ("want", 1, (ASK,), to)))
                fall = dice.choice((None, (None, dice.randrange(count))))
                off = dice.choice((None, "shut", dice.randrange(count)))
                rooms.append(room(door, fall=fall, off=off))
                ways += [(number, to)] if door[0] == "go" else []
                ways += [(number, fall[1])] if fall and door[0] in ("fail", "round", "want", "out") else []
                ways += [(number, off)] if isinstance(off, int) and door[0] in ("want", "out") else []
            told[is_machines(one(*rooms))] += 1
            self.assertIs(is_machines(one(*rooms)), not walks_back(ways, count))
        self.assertGreater(min(told.values()), 50)


def walks_back(ways, count):
    reach = set(ways)
    for middle in range(count):
        reach |= {(a, d) for a, b in reach for c, d in reach if b == c == middle}
    return any(a == b for a, b in reach)


def same(value, other):
    return type(value) is type(other) and value == other


class Named(unittest.TestCase):
    def test_each_by_its_name(self):
        for each in ORDINARY:
            self.assertEqual(machine_of(ORDINARY, each[0]), each)
            self.assertEqual(machine_of(ORDINARY, each[0]), each)

    def test_no_machine_of_the_name(self):
        for name in ("", "x", "mai", "mainn", "Main", "sun"):
            for refusal in (NoErrand, ErrandError, ValueError):
                with self.assertRaises(refusal) as caught:
                    machine_of(ORDINARY, name)
                self.assertIs(type(caught.exception), NoErrand)


if __name__ == "__main__":
    unittest.main()
