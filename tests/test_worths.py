import random
import unittest

from errandroom.worths import slot_worth, worth

TOP = 1000000006
HELD = {"a": 7, "b": 3, "zero": 0, "top": TOP}
NAMES = ("a", "b", "zero", "top")
SLOTS = (7, 3, 0, TOP)


def to_slots(one):
    if isinstance(one, str):
        return ("slot", NAMES.index(one))
    if isinstance(one, tuple):
        return (one[0], to_slots(one[1]), to_slots(one[2]))
    return one


def some_formula(dice, deep):
    kind = dice.randrange(3)
    if deep == 0 or kind == 0:
        return dice.choice((0, 1, 2, 16, 1000, TOP - 1, TOP))
    if kind == 1:
        return dice.choice(NAMES)
    return (dice.choice("+-*<="), some_formula(dice, deep - 1), some_formula(dice, deep - 1))


def plainly(one):
    if isinstance(one, str):
        return HELD[one]
    if isinstance(one, int):
        return one
    left, right = plainly(one[1]), plainly(one[2])
    if one[0] in "<=":
        return int(left < right if one[0] == "<" else left == right)
    whole = left + right if one[0] == "+" else left - right if one[0] == "-" else left * right
    while whole < 0:
        whole += 1000000007
    return whole - whole // 1000000007 * 1000000007


CASES = (
    (0, 0),
    (TOP, TOP),
    (12, 12),
    ("a", 7),
    ("zero", 0),
    (("+", "a", "b"), 10),
    (("-", "a", "b"), 4),
    (("-", "b", "a"), TOP + 1 - 4),
    (("-", 0, 1), TOP),
    (("-", 5, 5), 0),
    (("*", "a", "b"), 21),
    (("*", TOP, TOP), 1),
    (("*", TOP, 2), TOP - 1),
    (("+", TOP, 1), 0),
    (("+", TOP, TOP), TOP - 1),
    (("+", TOP, 0), TOP),
    (("<", "b", "a"), 1),
    (("<", "a", "b"), 0),
    (("<", "a", 7), 0),
    (("<", 0, TOP), 1),
    (("=", "a", 7), 1),
    (("=", "a", "b"), 0),
    (("=", 0, "zero"), 1),
    (("-", ("+", 1, 2), ("*", 2, 3)), TOP - 2),
    (("-", ("-", 9, 4), 3), 2),
    (("-", 9, ("-", 4, 3)), 8),
    (("<", ("-", 0, 1), 0), 0),
    (("=", ("+", TOP, 1), 0), 1),
    (("*", ("+", ("<", "b", "a"), 1), ("-", ("=", 1, 1), "b")), TOP - 3),
)


class Worths(unittest.TestCase):
    def test_by_names(self):
        for one, told in CASES:
            self.assertEqual(worth(one, dict(HELD)), told, one)

    def test_by_slots(self):
        for one, told in CASES:
            self.assertEqual(slot_worth(to_slots(one), SLOTS), told, one)

    def test_many_by_both(self):
        dice = random.Random(5)
        for _ in range(2000):
            one = some_formula(dice, 3)
            self.assertEqual(worth(one, dict(HELD)), plainly(one), one)
            self.assertEqual(slot_worth(to_slots(one), SLOTS), plainly(one), one)

    def test_each_slot_is_told_by_its_number(self):
        slots = tuple(range(100, 132))
        for s in range(32):
            self.assertEqual(slot_worth(("slot", s), slots), 100 + s)
        self.assertEqual(slot_worth(9, ()), 9)

    def test_a_name_may_be_called_like_a_word_of_the_document(self):
        self.assertEqual(worth(("+", "slot", "set"), {"slot": 4, "set": 5}), 9)

    def test_told_is_a_number_and_never_a_truth(self):
        for one, _ in CASES:
            self.assertIs(type(worth(one, dict(HELD))), int)
            self.assertIs(type(slot_worth(to_slots(one), SLOTS)), int)

    def test_nothing_is_changed_and_asked_again_the_same_is_told(self):
        held = dict(HELD)
        for one, told in CASES:
            self.assertEqual([worth(one, held), worth(one, held)], [told, told])
            self.assertEqual([slot_worth(to_slots(one), SLOTS) for _ in range(2)], [told, told])
        self.assertEqual(held, HELD)

    def test_what_is_held_is_asked_anew_each_time(self):
        held = {"a": 1}
        self.assertEqual(worth(("+", "a", 1), held), 2)
        held["a"] = 5
        self.assertEqual(worth(("+", "a", 1), held), 6)


if __name__ == "__main__":
    unittest.main()
