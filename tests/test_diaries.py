import copy
import itertools
import random
import unittest

from errandroom.diaries import unclosed
from errandroom.halls import run
from errandroom.making import made
from errandroom.hours import meant
from makings import other_making
from samples import OFF, ProgramDice, bad, good
from test_stories import some_events


def is_right_so_far(words):
    """Pairs that are through are taken out, innermost first; what is left are dos, some with an undo straight behind."""
    words = list(words)
    taken = True
    while taken:
        taken = False
        for at in range(len(words)):
            word, d = words[at]
            for size, like in ((2, ["do", "done"]), (3, ["do", "undo", "undone"])):
                if words[at:at + size] == [(one, d) for one in like]:
                    del words[at:at + size]
                    taken = True
                    break
            if taken:
                break
    while words:
        if words[0][0] != "do":
            return False
        words = words[2:] if words[1:2] == [("undo", words[0][1])] else words[1:]
    return True


def unclosed_by_steps(diary):
    words = [(word, d) for _, word, d in diary]
    for count in range(1, len(words) + 1):
        if not is_right_so_far([one for one in words[:count] if one[0] != "tell"]):
            return count - 1
    counts = {word: [one[0] for one in words].count(word) for word in ("do", "done", "undone")}
    return None if counts["do"] == counts["done"] + counts["undone"] else len(words)


def diary(text):
    """Of words with numbers, as in `do 0 done 0`, at rising hours."""
    parts = text.split()
    return tuple((hour, word, int(d)) for hour, (word, d) in enumerate(zip(parts[::2], parts[1::2])))


class Diaries(unittest.TestCase):
    def check(self, text, told):
        one = diary(text) if isinstance(text, str) else text
        before = copy.deepcopy(one)
        self.assertEqual(unclosed(one), told, one)
        self.assertEqual(unclosed(one), told)
        self.assertEqual(unclosed_by_steps(one), told, one)
        self.assertEqual(one, before)

    def test_closed(self):
        for text in (
            "", "tell 5", "do 0 done 0", "do 0 undo 0 undone 0", "do 7 done 7 do 7 undo 7 undone 7", "do 0 do 1 done 1 done 0",
            "do 0 do 1 undo 1 undone 1 undo 0 undone 0", "do 0 do 1 done 1 undo 0 undone 0", "do 0 undo 0 do 1 done 1 undone 0",
            "do 0 undo 0 do 1 undo 1 undone 1 undone 0", "do 0 do 0 done 0 done 0", "do 0 undo 0 do 0 undo 0 undone 0 undone 0",
        ):
            self.check(text, None)

    def test_tells_among_them(self):
        self.check("tell 1 do 0 tell 2 undo 0 tell 0 undone 0 tell 9", None)
        self.check("tell 1 do 0 tell 2 done 1", 3)
        self.check("tell 1 tell 2 undone 1", 2)
        self.check("tell 1 do 0 tell 2", 3)

    def test_nothing_is_open(self):
        for word in ("done", "undo", "undone"):
            self.check(f"{word} 0", 0)
            self.check(f"do 0 done 0 {word} 0", 2)
            self.check(f"do 0 undo 0 undone 0 {word} 0", 3)
            self.check(f"{word} 0 {word} 0 do 1", 0)

    def test_of_another_number(self):
        for word in ("done", "undo", "undone"):
            self.check(f"do 0 {word} 1", 1)
            self.check(f"do 0 do 1 {word} 0", 2)
            self.check(f"do 0 undo 0 {word} 1", 2)
        self.check("do 0 do 1 undo 1 undone 0", 3)

    def test_marked_twice(self):
        self.check("do 0 undo 0 undo 0", 2)
        self.check("do 0 undo 0 do 1 done 1 undo 0 undone 0", 4)

    def test_done_when_marked(self):
        self.check("do 0 undo 0 done 0", 2)
        self.check("do 0 do 1 undo 1 done 1 done 0", 3)

    def test_undone_when_not_marked(self):
        self.check("do 0 undone 0", 1)
        self.check("do 0 undo 0 do 1 undone 1", 3)
        # The mark of one that is through counts for no other one.
        self.check("do 0 undo 0 undone 0 do 0 undone 0", 4)

    def test_some_stay_open(self):
        for text, told in (("do 0", 1), ("do 0 undo 0", 2), ("do 0 do 1 done 1", 3), ("do 0 do 1 done 1 undo 0", 4), ("do 0 done 0 do 0", 3)):
            self.check(text, told)

    def test_the_first_of_several(self):
        self.check("do 0 done 1 undo 0 undone 1", 1)
        self.check("do 0 undo 0 undone 0 undone 0 done 0", 3)

    def test_all_short_ones(self):
        words = [(word, d) for word in ("do", "done", "undo", "undone") for d in (0, 1)]
        for size in range(5):
            for chosen in itertools.product(words, repeat=size):
                one = tuple((0, word, d) for word, d in chosen)
                self.assertEqual(unclosed(one), unclosed_by_steps(one), one)

    def test_houses_that_have_ended(self):
        ended = lengths = 0
        for seed in range(120):
            dice = random.Random(seed)
            program = ProgramDice(dice, lively=True).program()
            machines = other_making(dice, program)[0]
            args = tuple(dice.choice((0, 1, 2, 5)) for _ in program[0][1])
            for house in run(machines, program[0][0], args, some_events(dice, machines, args, 12))[1]:
                self.assertEqual(unclosed(house[4]), unclosed_by_steps(house[4]))
                if house[3]:
                    self.assertIsNone(unclosed(house[4]))
                    ended += 1
                    lengths += len(house[4])
        self.assertGreater(ended, 300)
        self.assertGreater(lengths, 300)

    def test_a_house_that_waits_in_a_do(self):
        want = ("want", 1, ((None, "ask", "sun", 1),))
        program = (("main", (), (("do", (want,), (want,)),)),)
        for events, told in (((), 1), ((OFF,), 2), ((bad((0, 0)),), 2), ((bad((0, 0)), good((1, 0))), None), ((good((0, 0)),), None)):
            self.check(run(made(program)[0], "main", (), events)[1][0][4], told)
            self.check(meant(program, "main", (), events)[0][0][4], told)


if __name__ == "__main__":
    unittest.main()
