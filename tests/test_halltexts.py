import copy
import re
import unittest

from errandroom.errors import ErrandError, NoText
from errandroom.halls import bare, begun, come, run
from errandroom.halltexts import hall_text, read_hall
from errandroom.making import made
from errandroom.shorter import shorter
from makings import machine, room
from samples import OFF, OTHERS, TOP, WHOLE, bad, good, plain
from test_halls import END, ask, call, waits
from test_stories import SLOW, some_run_of

N = "(?:0|[1-9][0-9]{0,9})"
END_TEXT = f"(?:-|(?:good|bad|off):{N}:{N})"
HOUSE = re.compile(f"house (-|[0-9](?:[.][0-9]){{1}}(?:[.][0-9][.][0-9])?) [a-z]{{1,8}} {N} ({END_TEXT})")
STATE = re.compile(f"state {N} {N} {N} [01](?: {N})*")
NOTE = re.compile(f"note {N} (?:tell|do|done|undo|undone) {N}")
ASK = re.compile(f"ask ([0-9](?:[.][0-9]){{1}}(?:[.][0-9][.][0-9]){{0,2}}) [a-z]{{1,8}} {N} {N} {END_TEXT}")


def writes_a_hall(text):
    """Line by line, with what may stand behind each."""
    if any(len(figures) > 10 or int(figures) > TOP for figures in re.findall("[0-9]+", text)):
        return False
    lines = text.split("\n")
    if not re.fullmatch(f"hour {N}", lines[0]):
        return False
    houses, asks, due = [], [], "any"
    for line in lines[1:]:
        house, told_ask = HOUSE.fullmatch(line), ASK.fullmatch(line)
        if due == "state":
            if not STATE.fullmatch(line):
                return False
            due = "note"
        elif house and not asks:
            houses.append(house[1])
            due = "state" if house[2] == "-" else "note"
        elif told_ask:
            asks.append(told_ask[1])
        elif due != "note" or asks or not NOTE.fullmatch(line):
            return False
    paths = [[() if path == "-" else tuple(map(int, path.split("."))) for path in some] for some in (houses, asks)]
    return due != "state" and all(some == sorted(set(some)) for some in paths)


class HallTexts(unittest.TestCase):
    def writes(self, hall, *lines):
        """Written so, and read back the same."""
        text = "\n".join(lines)
        before = copy.deepcopy(hall)
        self.assertEqual(hall_text(hall), text)
        self.assertEqual(hall_text(hall), text)
        self.assertEqual(hall, before)
        self.assertTrue(writes_a_hall(text))
        self.assertEqual(read_hall(text), hall)
        self.assertEqual(read_hall(text), hall)
        self.assertTrue(plain(read_hall(text)))

    def refused(self, text):
        for kind in (NoText, ErrandError, ValueError):
            with self.assertRaises(kind, msg=text if isinstance(text, str) else None):
                read_hall(text)
        with self.assertRaises(ErrandError) as caught:
            read_hall(text)
        self.assertIs(type(caught.exception), NoText)
        if isinstance(text, str):
            self.assertFalse(writes_a_hall(text), text)

    def taken(self, text):
        self.assertTrue(writes_a_hall(text), text)
        self.assertEqual(hall_text(read_hall(text)), text)
        return read_hall(text)


class Written(HallTexts):
    def test_a_house_that_has_ended(self):
        self.writes((0, (((), "main", 0, ("good", 5, 0), (), ()),), ()), "hour 0", "house - main 0 good:5:0")
        self.writes((7, (((), "main", 0, ("bad", TOP, 6), (), ()),), ()), "hour 7", f"house - main 0 bad:{TOP}:6")
        self.writes((2, (((), "main", 0, ("off", 0, 2), (), ()),), ()), "hour 2", "house - main 0 off:0:2")

    def test_a_house_that_waits(self):
        state = (3, (4, 0, 9), 2, 1, False)
        self.writes((1, (((), "main", 0, (), (), state),), ()), "hour 1", "house - main 0 -", "state 3 2 1 0 4 0 9")
        state = (0, (), 1, 16, True)
        self.writes((1, (((), "main", 0, (), (), state),), ()), "hour 1", "house - main 0 -", "state 0 1 16 1")

    def test_slots_none_to_thirty_two(self):
        for count in range(33):
            slots = tuple(n * n * 7 for n in range(count))
            self.writes(
                (1, (((), "a", 0, (), (), (159, slots, 5, 0, False)),), ()),
                "hour 1", "house - a 0 -", " ".join(["state 159 5 0 0"] + [str(n) for n in slots]),
            )

    def test_diaries(self):
        diary = ((0, "tell", TOP), (0, "do", 0), (3, "undo", 0), (3, "undone", 0), (150, "done", 23))
        notes = (f"note 0 tell {TOP}", "note 0 do 0", "note 3 undo 0", "note 3 undone 0", "note 150 done 23")
        self.writes((150, (((), "main", 0, ("off", 0, 9), diary, ()),), ()), "hour 150", "house - main 0 off:0:9", *notes)
        # Behind a state, where there is one.
        self.writes(
            (150, (((), "main", 0, (), diary, (1, (2,), 3, 4, True)),), ()), "hour 150", "house - main 0 -", "state 1 3 4 1 2", *notes,
        )

    def test_houses_and_asks(self):
        hall = (
            12,
            (
                ((), "main", 0, (), ((1, "tell", 2),), (2, (5,), 2, 0, False)),
                ((0, 1), "sub", 0, ("good", 3, 4), (), ()),
                ((1, 0), "abcdefgh", 4, (), ((4, "do", 0),), (0, (), 1, 0, True)),
                ((1, 0, 0, 3), "z", 4, ("off", 0, 5), (), ()),
            ),
            (
                ((0, 0), "bank", 7, 0, ("bad", 8, 1)), ((1, 0, 0, 0), "sun", 0, 4, ("off", 0, 5)), ((1, 0, 0, 3, 4, 9), "post", TOP, 4, ("good", 1, 5)),
                ((1, 1), "sun", 1, 4, ()),
            ),
        )
        self.writes(
            hall, "hour 12", "house - main 0 -", "state 2 2 0 0 5", "note 1 tell 2", "house 0.1 sub 0 good:3:4", "house 1.0 abcdefgh 4 -",
            "state 0 1 0 1", "note 4 do 0", "house 1.0.0.3 z 4 off:0:5", "ask 0.0 bank 7 0 bad:8:1", "ask 1.0.0.0 sun 0 4 off:0:5",
            f"ask 1.0.0.3.4.9 post {TOP} 4 good:1:5", "ask 1.1 sun 1 4 -",
        )

    def test_halls_that_no_run_has(self):
        # Whether some run has such a hall is not looked at.
        self.taken("hour 0")
        self.taken("hour 1000000006\nask 0.0 sun 1000000006 1000000006 off:1000000006:0")
        self.taken("hour 0\nhouse 0.0 a 9 -\nstate 1000000006 9 99 1 1")
        self.taken("hour 3\nhouse - end 9 off:7:0\nnote 9 undone 99\nnote 0 undo 1000000006")
        self.taken("hour 0\nhouse 9.9 house 0 good:0:0\nhouse 9.9.9.9 note 0 good:0:0\nask 9.9.9.9.9.9 ask 0 0 -")


class Refused(HallTexts):
    GOOD = "hour 12\nhouse - main 0 -\nstate 2 2 0 0 5 6\nnote 1 tell 2\nhouse 0.1 sub 0 good:3:4\nask 0.0 bank 7 0 bad:8:1\nask 1.0 sun 1 4 -"

    def test_good(self):
        self.taken(self.GOOD)

    def test_each_part_otherwise(self):
        for old, others in (
            ("hour 12", ("", "hour", "hour ", "hour 12 ", "hour x", "hour 1 2", "hours 12", "Hour 12", "hour -", "12", "hour  12", " hour 12")),
            ("house - main 0 -", (
                "house - main 0", "house - main 0 - 0", "house main 0 -", "house - main - -", "house -  main 0 -", "house - Main 0 -",
                "house - main1 0 -", "house -  0 -", "house - abcdefghi 0 -", "house . main 0 -", "house -. main 0 -", "house () main 0 -", "houses - main 0 -",
                "house - main 0 --", "house - main 0 ", "house - main 0 - ", "house - main 0 good", "house - ma.in 0 -", "house - - 0 -",
            )),
            ("state 2 2 0 0 5 6", (
                "state", "state 2", "state 2 2", "state 2 2 0", "state 2 2 0 2", "state 2 2 0 2 5 6", "state 2 2 0 - 5", "state 2 2 0 01 5", "state 2 2 0 0 5 6 ",
                "state 2 2 0 0 5  6", "state 2 2 0 0 5 x", "state 2 2 0 0 -", "state 2 2 0 True 5", "stat 2 2 0 0 5 6", "note 0 tell 1",
            )),
            ("note 1 tell 2", (
                "note", "note 1", "note 1 tell", "note tell 2", "note 1 tell 2 3", "note 1 told 2", "note 1 Tell 2", "note 1 good 2", "note x tell 2",
                "note 1 tell x", "note 1 tell -", "note 1  tell 2", "note 1 tell 2 ", "notes 1 tell 2", "tell 2", "note 1 give 2", "note 1 mark 2",
            )),
            ("house 0.1 sub 0 good:3:4", (
                "house 0.1 sub 0 good:3", "house 0.1 sub 0 good:3:4:5", "house 0.1 sub 0 good", "house 0.1 sub 0 good::4", "house 0.1 sub 0 good:3:",
                "house 0.1 sub 0 :3:4", "house 0.1 sub 0 fine:3:4", "house 0.1 sub 0 GOOD:3:4", "house 0.1 sub 0 good:-:4", "house 0.1 sub 0 good:3:-",
                "house 0.1 sub 0 good 3 4", "house 0.1 sub 0 good:3 :4", "house 0.1 sub 0 3:good:4", "house 0.1 sub 0 tell:3:4", "house 0.1 sub 0 none",
            )),
            ("ask 0.0 bank 7 0 bad:8:1", (
                "ask", "ask 0.0", "ask 0.0 bank 7 0", "ask 0.0 bank 7 bad:8:1", "ask 0.0 bank 7 0 bad:8:1 9", "ask 0.0 7 bank 0 bad:8:1", "ask 0.0 bank x 0 -",
                "ask 0.0 bank 7 x -", "ask 0.0 Bank 7 0 -", "ask 0.0  7 0 -", "ask 0.0 abcdefghi 7 0 -", "ask 0.0 bank 7 0 bad", "ask 0.0 bank 7 0 worse:8:1",
                "asks 0.0 bank 7 0 -", "ask 0.0 bank 7 0 -:0:0", " ask 0.0 bank 7 0 -", "ask\t0.0 bank 7 0 -",
            )),
        ):
            self.assertIn(old, self.GOOD)
            for other in others:
                self.refused(self.GOOD.replace(old, other))

    def test_numbers(self):
        for text, at in ((self.GOOD, n) for n in range(len(re.findall("[0-9]+", self.GOOD)))):
            parts = re.split("([0-9]+)", text)
            for other in ("00", "01", "012", "+1", "-1", "1.0", "1e3", "1_0", "0x1", "1000000007", "9999999999", "10000000060", "1" * 30, "9" * 5000, " 1", "\u0661", "\u00b2"):
                self.refused("".join(parts[:2 * at + 1] + [other] + parts[2 * at + 2:]))

    def test_the_greatest_number(self):
        for line in ("hour {}", "hour 0\nhouse - a {} good:0:0", "hour 0\nhouse - a 0 good:{}:0", "hour 0\nhouse - a 0 good:0:{}",
                     "hour 0\nhouse - a 0 -\nstate {} 0 0 0", "hour 0\nhouse - a 0 -\nstate 0 {} 0 0", "hour 0\nhouse - a 0 -\nstate 0 0 {} 0",
                     "hour 0\nhouse - a 0 -\nstate 0 0 0 0 {}", "hour 0\nhouse - a 0 good:0:0\nnote {} do 0", "hour 0\nhouse - a 0 good:0:0\nnote 0 do {}",
                     "hour 0\nask 0.0 a {} 0 -", "hour 0\nask 0.0 a 0 {} -"):
            self.taken(line.replace("{}", str(TOP)))
            self.refused(line.replace("{}", str(TOP + 1)))

    def test_lengths_of_paths(self):
        for count in range(9):
            path = ".".join(["1"] * count) or "-"
            (self.taken if count in (0, 2, 4) else self.refused)(f"hour 0\nhouse {path} a 0 good:0:0")
            (self.taken if count in (2, 4, 6) else self.refused)(f"hour 0\nask {path} a 0 0 -")

    def test_what_no_path_is(self):
        for path in ("", ".", "0.", ".0", "0..0", "0.10", "10.0", "0.00", "0,0", "0-0", "0.-", "-.-", "--", "0.x", "0:0", "0. 0", "-0.0", "0.0.0", "0.0.0.0.0"):
            self.refused(f"hour 0\nhouse {path} a 0 good:0:0")
            self.refused(f"hour 0\nask {path} a 0 0 -")
        for number in range(10):
            self.taken(f"hour 0\nhouse {number}.{9 - number} a 0 good:0:0")

    def test_paths_that_do_not_rise(self):
        house, told_ask = "house {} a 0 good:0:0", "ask {} a 0 0 -"
        for lower, higher in (("0.0", "0.1"), ("0.9", "1.0"), ("0.0", "0.0.0.0"), ("0.1.9.9", "0.2"), ("1.1.0.0", "1.1.0.1")):
            for line in (house, told_ask):
                low, high = line.replace("{}", lower), line.replace("{}", higher)
                self.taken(f"hour 0\n{low}\n{high}")
                self.refused(f"hour 0\n{high}\n{low}")
                self.refused(f"hour 0\n{low}\n{low}")
        self.refused("hour 0\nhouse 0.0 a 0 good:0:0\nhouse - a 0 good:0:0")
        self.refused("hour 0\nhouse - a 0 good:0:0\nhouse - b 0 good:0:0")
        self.taken("hour 0\nhouse 5.5 a 0 good:0:0\nask 0.0 a 0 0 -")

    def test_states(self):
        # One where none stands, none where one stands, two, behind notes.
        self.refused("hour 0\nhouse - a 0 good:0:0\nstate 0 0 0 0")
        self.refused("hour 0\nhouse - a 0 -")
        self.refused("hour 0\nhouse - a 0 -\nnote 0 tell 1")
        self.refused("hour 0\nhouse - a 0 -\nhouse 0.0 a 0 -\nstate 0 0 0 0")
        self.refused("hour 0\nhouse - a 0 -\nask 0.0 sun 0 0 -")
        self.refused("hour 0\nhouse - a 0 -\nstate 0 0 0 0\nstate 0 0 0 0")
        self.refused("hour 0\nhouse - a 0 -\nnote 0 tell 1\nstate 0 0 0 0")
        self.refused("hour 0\nstate 0 0 0 0")

    def test_orders_of_lines(self):
        lines = self.GOOD.split("\n")
        for a in range(len(lines)):
            for b in range(a + 1, len(lines)):
                changed = list(lines)
                changed[a], changed[b] = lines[b], lines[a]
                # A note may stand behind the other house as well, and then is that one's.
                (self.taken if (a, b) == (3, 4) else self.refused)("\n".join(changed))
        self.refused("house - a 0 good:0:0\nhour 0")
        self.refused("hour 0\nask 0.0 a 0 0 -\nhouse - a 0 good:0:0")
        self.refused("hour 0\nnote 0 tell 1\nhouse - a 0 good:0:0")
        self.refused("hour 0\nask 0.0 a 0 0 -\nnote 0 tell 1")
        self.refused("hour 0\nhour 0")
        self.refused("hour 0\nhouse - a 0 good:0:0\nhour 0")

    def test_blanks_and_lines_without_signs(self):
        for text in ("", "\n", " ", "hour 0\n", "\nhour 0", "hour 0\n\nhouse - a 0 good:0:0", "hour 0\nhouse - a 0 good:0:0\n", "hour 0 \nhouse - a 0 good:0:0",
                     "hour 0\n house - a 0 good:0:0", "hour 0\r\nhouse - a 0 good:0:0", "hour 0 house - a 0 good:0:0", "hour 0 | house - a 0 good:0:0", "hour 0\n \n"):
            self.refused(text)

    def test_each_line_twice_or_left_out(self):
        lines = self.GOOD.split("\n")
        for at in range(len(lines)):
            without, twice = "\n".join(lines[:at] + lines[at + 1:]), "\n".join(lines[:at + 1] + lines[at:])
            (self.taken if writes_a_hall(without) else self.refused)(without)
            (self.taken if lines[at].startswith("note") else self.refused)(twice)

    def test_things_that_are_no_text(self):
        for value in OTHERS:
            if not isinstance(value, str):
                self.refused(value)
        self.refused(b"hour 0")
        self.refused(["hour 0"])
        self.refused((0, (), ()))


class Runs(HallTexts):
    def put_away(self, machines, name, args, events):
        """A run that is put away behind each event and taken up again comes to the same."""
        hall = begun(machines, name, args)
        for event in (None,) + events:
            if event is not None:
                hall, word = come(machines, hall, event)
                self.assertEqual((hall, word), come(machines, again, event))
            text = hall_text(hall)
            self.assertTrue(writes_a_hall(text))
            self.assertEqual(read_hall(text), hall)
            self.assertEqual(read_hall(hall_text(bare(hall))), bare(hall))
            again = read_hall(text)
        self.assertEqual(hall, run(machines, name, args, events))

    def test_a_run(self):
        machines = (machine(waits(ask(0), call("slow"), rows=[("mark", "do", 0), ("tell", 5)]), END), SLOW)
        self.put_away(machines, "main", (), (good((7, 7)), good((0, 0), 3), OFF, good((0, 1, 1, 0), 2), bad((0, 0))))
        hall = run(machines, "main", (), (good((7, 7)), good((0, 0), 3), OFF))
        self.writes(
            hall, "hour 3", "house - main 0 -", "state 0 1 0 1 0 0 0 0", "note 0 do 0", "note 0 tell 5", "house 0.1 slow 0 -", "state 2 2 0 1 0",
            "ask 0.0 sun 1 0 good:3:2", "ask 0.1.0.0 sun 1 0 off:0:2", "ask 0.1.1.0 sun 7 2 -",
        )

    def test_many_slots(self):
        machines = (machine(room(("want", 1, (ask(31),), 1), [("put", n, n) for n in range(32)]), END, slots=32),)
        self.put_away(machines, "main", (), (good((0, 0), 3),))

    def test_whole(self):
        machines = shorter(WHOLE, *made(WHOLE))[0]
        self.put_away(machines, "main", (1, 2), (good((0, 1), 3), OFF, bad((1, 2), 4), good((1, 2), 5)))
        self.put_away(machines, "main", (1, 2), (good((0, 1), 3), bad((1, 2), 4)))

    def test_by_dice(self):
        for seed in range(200):
            _, *parts = some_run_of(seed, 10, (0, 1, 2, TOP))
            self.put_away(*parts)

    def test_texts_with_something_changed(self):
        signs = "0123456789.:- \nabgoduxhtne"
        taken = 0
        for seed in range(250):
            dice, *parts = some_run_of(seed, 6, (0, 1, 2, TOP))
            text = hall_text(run(*parts))
            for _ in range(20):
                at = dice.randrange(len(text))
                kind = dice.randrange(5)
                if kind == 0:
                    other = text[:at] + text[at + 1:]
                elif kind == 1:
                    other = text[:at] + dice.choice(signs) + text[at:]
                elif kind == 2:
                    other = text[:at] + dice.choice(signs) + text[at + 1:]
                else:
                    words = re.split("([ \n])", text)
                    words[2 * dice.randrange(len(words) // 2)] = dice.choice(words[::2])
                    other = "".join(words)
                if writes_a_hall(other):
                    self.taken(other)
                    taken += 1
                else:
                    with self.assertRaises(NoText):
                        read_hall(other)
        self.assertGreater(taken, 300)


if __name__ == "__main__":
    unittest.main()
