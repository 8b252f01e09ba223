import random
import unittest

from errandroom.desk import Desk
from errandroom.errors import ErrandError, NoErrand, NoRow, NoText
from errandroom.halls import begun, come, run
from errandroom.halltexts import hall_text, read_hall
from errandroom.hours import meant
from errandroom.making import made
from errandroom.reader import read
from errandroom.shorter import shorter
from errandroom.writer import written
from samples import OFF, OTHERS, TOP, WHOLE, ProgramDice, bad, good, some_event

SHOP = """errand main a
do
want 1
x = ask bank (a+1)
call slow
end
tell x
undo
tell 3
end
give x
end
errand slow
do
want 1
ask post 0
end
undo
want 1
ask moon 2
end
end
end"""


def row_of(text):
    return text.replace("\n", " | ")


SHOP_ROW = "program " + row_of(SHOP)
# All rows but program, each rightly written.
ROWS = (
    "begin main 4", "good 0.0 5", "bad 0.0 5", "off", "waits", "result", "diary -", "keep", "take hour 0 | house - main 0 good:5:0", "size main",
)


class Desks(unittest.TestCase):
    def desk(self, *rows):
        desk = Desk()
        for row in rows:
            self.assertEqual(desk.say(row), "ok", row)
        return desk

    def talk(self, desk, *pairs):
        for row, told in pairs:
            answer = desk.say(row)
            self.assertIs(type(answer), str)
            self.assertEqual(answer, told, row)

    def refused(self, kind, desk, row):
        """Of just that class, also when told again; nothing is changed by it."""
        before = self.all_of(desk)
        for taken in (kind, ErrandError, ValueError):
            with self.assertRaises(taken):
                desk.say(row)
        with self.assertRaises(ErrandError) as caught:
            desk.say(row)
        self.assertIs(type(caught.exception), kind, row)
        self.assertEqual(self.all_of(desk), before)

    def all_of(self, desk):
        """What a desk tells of itself without a change."""
        told = []
        for row in ("size main", "size slow", "size a", "keep", "waits", "result", "diary -"):
            try:
                told.append(desk.say(row))
            except ErrandError as error:
                told.append(type(error))
        return told


class Rows(Desks):
    def test_a_run(self):
        desk = self.desk(SHOP_ROW, "begin main 4")
        self.talk(
            desk, ("waits", "0.0 bank 5, 0.1.0.0 post 0"), ("result", "none"), ("diary -", "do 0"), ("diary 0.1", "do 0"),
            ("good 0.0 9", "ok"), ("waits", "0.1.1.0 moon 2"), ("result", "none"), ("diary -", "do 0"), ("diary 0.1", "do 0, undo 0"),
            ("good 0.0 9", "late"), ("good 0.1.1.0 0", "ok"), ("waits", ""), ("result", "good 9"), ("diary -", "do 0, tell 9, done 0"),
            ("diary 0.1", "do 0, undo 0, undone 0"),
        )

    def test_bad_answers(self):
        self.talk(
            self.desk(SHOP_ROW, "begin main 4"), ("bad 0.0 8", "ok"), ("waits", "0.1.0.0 post 0"), ("bad 0.1.0.0 7", "ok"), ("waits", "0.1.1.0 moon 2"),
            ("bad 0.1.1.0 6", "ok"), ("result", "bad 8"), ("diary -", "do 0, undo 0, tell 3, undone 0"), ("diary 0.1", "do 0, undo 0, undone 0"),
        )

    def test_off(self):
        self.talk(
            self.desk(SHOP_ROW, "begin main 4"), ("off", "ok"), ("off", "late"), ("waits", "0.1.1.0 moon 2"), ("good 0.1.1.0 6", "ok"), ("result", "off 0"),
            ("off", "late"), ("diary -", "do 0, undo 0, tell 3, undone 0"),
        )

    def test_late_events_are_an_hour_too(self):
        desk = self.desk(SHOP_ROW, "begin main 4")
        self.talk(desk, ("good 9.9 1", "late"), ("good - 1", "late"), ("bad 1 2", "late"), ("good 0.0 9", "ok"), ("good 0.0 9", "late"))
        events = (good((9, 9), 1), good((), 1), bad((1,), 2), good((0, 0), 9), good((0, 0), 9))
        machines = shorter(read(SHOP), *made(read(SHOP)))[0]
        self.assertEqual(desk.say("keep"), row_of(hall_text(run(machines, "main", (4,), events))))
        self.assertTrue(desk.say("keep").startswith("hour 5 | house - main 0 - | "))

    def test_paths_of_any_count_up_to_six(self):
        desk = self.desk(SHOP_ROW, "begin main 4")
        for path in ("-", "0", "0.1", "0.1.2", "0.1.2.3", "0.1.2.3.4", "0.1.2.3.4.5", "9.9.9.9.9.9"):
            self.talk(desk, (f"good {path} 0", "late"), (f"bad {path} {TOP}", "late"))
            if path not in ("-", "0.1"):
                self.refused(NoErrand, desk, f"diary {path}")
        for path in ("0.1.2.3.4.5.6", "0.1.2.3.4.5.6.7"):
            for row in (f"good {path} 0", f"bad {path} 0", f"diary {path}"):
                self.refused(NoRow, desk, row)

    def test_keep_and_take(self):
        desk = self.desk(SHOP_ROW, "begin main 4", "good 0.0 9")
        kept = desk.say("keep")
        self.assertNotIn("\n", kept)
        machines = shorter(read(SHOP), *made(read(SHOP)))[0]
        hall = run(machines, "main", (4,), (good((0, 0), 9),))
        self.assertEqual(kept, row_of(hall_text(hall)))
        # Taken up at another desk, and here again when all is over.
        other = self.desk(SHOP_ROW, "take " + kept)
        for one in (other, desk):
            self.talk(one, ("keep", kept), ("waits", "0.1.1.0 moon 2"), ("good 0.1.1.0 0", "ok"), ("result", "good 9"), ("waits", ""))
            self.talk(one, ("take " + kept, "ok"), ("result", "none"), ("off", "ok"), ("bad 0.1.1.0 0", "ok"), ("result", "off 0"))
        hall = come(machines, come(machines, hall, OFF)[0], bad((0, 1, 1, 0), 0))[0]
        self.assertEqual(desk.say("keep"), row_of(hall_text(hall)))

    def test_size(self):
        machines = shorter(read(SHOP), *made(read(SHOP)))[0]
        desk = self.desk(SHOP_ROW)
        for name, _, slots, rooms in machines:
            self.talk(desk, (f"size {name}", f"{len(rooms)} {slots}"))
        self.talk(self.desk("program errand a | end"), ("size a", "1 0"))
        self.talk(self.desk("program errand a p q r | end"), ("size a", "1 3"))
        # Shorter than what is made of it.
        self.assertGreater(len(made(read(SHOP))[0][0][3]), len(machines[0][3]))

    def test_answers_of_nothing(self):
        desk = self.desk("program errand a | end", "begin a")
        self.talk(desk, ("waits", ""), ("diary -", ""), ("result", "good 0"), ("keep", "hour 0 | house - a 0 good:0:0"))

    def test_begin_anew(self):
        desk = self.desk(SHOP_ROW, "begin main 4", "good 0.0 9", "begin slow")
        self.talk(desk, ("waits", "0.0 post 0"), ("begin main 7", "ok"), ("waits", "0.0 bank 8, 0.1.0.0 post 0"), ("diary -", "do 0"))
        self.assertTrue(desk.say("keep").startswith("hour 0 | "))

    def test_numbers_that_are_handed_in(self):
        desk = self.desk("program errand a p q r | give ((p*q)+r) | end")
        self.talk(desk, ("begin a 3 4 5", "ok"), ("result", "good 17"), (f"begin a 0 0 {TOP}", "ok"), ("result", f"good {TOP}"))

    def test_a_program_told_anew(self):
        desk = self.desk(SHOP_ROW, "begin main 4")
        self.talk(desk, ("program errand a | give 5 | end", "ok"))
        for row in ("good 0.0 5", "bad 0.0 5", "off", "waits", "result", "diary -", "keep"):
            self.refused(NoRow, desk, row)
        self.refused(NoErrand, desk, "size main")
        self.refused(NoErrand, desk, "begin main 4")
        self.talk(desk, ("size a", "1 0"), ("begin a", "ok"), ("result", "good 5"))

    def test_desks_are_their_own(self):
        one, other = self.desk(SHOP_ROW, "begin main 4"), Desk()
        self.refused(NoRow, other, "waits")
        self.talk(other, ("program errand a | end", "ok"))
        self.talk(one, ("result", "none"), ("good 0.0 5", "ok"))


class Refused(Desks):
    def test_what_is_no_row(self):
        rows = (
            "", " ", "x", "hello", "begin", "begin ", "begin  main", "begin main ", "begin Main", "begin main x", "begin main 4 ", "begin main  4",
            "begin main -1", "begin main 04", "begin main 1000000007", "begin abcdefghi", "begin 4", "begin main,4", "Begin main 4", " begin main 4",
            "good", "good 0.0", "good 0.0 ", "good 0.0 x", "good 0.0 05", "good 0.0 5 6", "good  0.0 5", "good 0.0 5 ", "good 0.0. 5", "good 0,0 5",
            "good x 5", "good 0.10 5", "good 00 5", "good 0.0 1000000007", "good 5", "good 0.0 -", "good 0.0 +5", "good -- 5", "good . 5", "good  5",
            "bad", "bad 0.0", "bad 0.0 x", "bad 0.0 5 6", "bad 0.01 5", "bad 0.0 007", "bads 0.0 5", "bad 0.0 \u0665",
            "off ", "off 1", " off", "OFF", "offs", "waits ", "waits 1", "wait", "result ", "result 0", "results", "keep ", "keep -", "kept",
            "diary", "diary ", "diary  -", "diary - ", "diary x", "diary 0.0 1", "diary 0.", "diary 0.1.", "diary -.0", "diary 12",
            "size", "size ", "size main ", "size  main", "size Main", "size main sub", "size 4", "size abcdefghi", "size -",
            "program", "programs x", "take", "takes x", " program errand a", "Program errand a | end", "program|errand a | end",
            "off\n", "\noff", "waits\n", "keep\nkeep", "begin main 4\n", "good 0.0 5\n", "size main\n", "diary -\n",
            "program errand a\nend", "program errand a | \nend", "program \n", "take hour 0\nhouse - a 0 good:0:0", "take \n", "\nprogram errand a | end",
        )
        for desk in (Desk(), self.desk(SHOP_ROW), self.desk(SHOP_ROW, "begin main 4")):
            for row in rows:
                self.refused(NoRow, desk, row)

    def test_things_that_are_no_text(self):
        for desk in (Desk(), self.desk(SHOP_ROW, "begin main 4")):
            for value in OTHERS:
                if not isinstance(value, str):
                    self.refused(NoRow, desk, value)
            self.refused(NoRow, desk, b"off")
            self.refused(NoRow, desk, ("off",))
            self.refused(NoRow, desk, ["begin main 4"])

    def test_ahead_of_any_program(self):
        desk = Desk()
        for row in ROWS + ("begin none", "size none", "take ", "take x", "diary 0.0"):
            self.refused(NoRow, desk, row)
        # A program that was refused is none.
        self.refused(NoText, desk, "program x")
        for row in ROWS:
            self.refused(NoRow, desk, row)

    def test_ahead_of_any_hall(self):
        desk = self.desk(SHOP_ROW)
        for row in ("good 0.0 5", "bad 0.0 5", "off", "waits", "result", "diary -", "diary 5", "keep"):
            self.refused(NoRow, desk, row)
        # The others need none.
        self.talk(desk, ("size slow", desk.say("size slow")), ("take hour 0 | house - main 0 good:5:0", "ok"), ("result", "good 5"))
        desk = self.desk(SHOP_ROW)
        for row, kind in (("begin none", NoErrand), ("begin main", NoErrand), ("take x", NoText)):
            self.refused(kind, desk, row)
            self.refused(NoRow, desk, "waits")

    def test_texts_that_write_no_program(self):
        for desk in (Desk(), self.desk(SHOP_ROW), self.desk(SHOP_ROW, "begin main 4", "good 0.0 5")):
            for text in (
                "", " ", "x", "errand a", "errand a |", "errand a | end |", "errand a | end | ", "| errand a | end", " | errand a | end", "errand a  |  end",
                "errand a| end", "errand a |end", "errand a|end", "errand a | | end", "errand a |  | end", "errand a | give x+1 | end", "errand a end",
                "errand a | end errand b | end", "errand a | end | errand a | end", "hour 0", "errand a | tell | end", "  errand a | end", "errand a | end ",
                row_of(SHOP)[:-6], row_of(SHOP) + " | end", "errand a || end", "errand a \\n end", "%", "\u00e9",
            ):
                self.refused(NoText, desk, "program " + text)

    def test_texts_that_write_no_hall(self):
        for desk in (self.desk(SHOP_ROW), self.desk(SHOP_ROW, "begin main 4", "good 0.0 5")):
            for text in (
                "", " ", "x", "hour", "hour 00", "hour 0 | ", "hour 0 |", "| hour 0", " | hour 0", "hour 0| house - a 0 good:0:0", "hour 0 |house - a 0 good:0:0",
                "hour 0|house - a 0 good:0:0", "hour 0 |  house - a 0 good:0:0", "hour 0  | house - a 0 good:0:0", "hour 0 house - a 0 good:0:0",
                "hour 0 | | house - a 0 good:0:0", "hour 0 | house - a 0 -", "hour 0 | house - a 0 good:0:0 | state 0 0 0 0", row_of(SHOP),
            ):
                self.refused(NoText, desk, "take " + text)

    def test_no_errand(self):
        desk = self.desk(SHOP_ROW, "begin main 4")
        for row in (
            "begin main", "begin main 4 5", "begin slow 1", "begin none", "begin none 4", "begin a", "size none", "size a", "size x", "size bank",
            "diary 0.0", "diary 0.1.0.0", "diary 1.0", "diary 0", "diary 0.1.0",
        ):
            self.refused(NoErrand, desk, row)

    def test_the_order_of_refusals(self):
        # What is no row, ahead of what lacks; what lacks, ahead of what stands in a text, or is called so.
        desk = Desk()
        self.refused(NoRow, desk, "take x")
        self.refused(NoRow, desk, "size none")
        self.refused(NoRow, desk, "begin none 1 2 3 4 5 6 7")
        desk = self.desk(SHOP_ROW)
        self.refused(NoRow, desk, "diary 9.9")
        self.refused(NoText, desk, "take ")
        self.refused(NoRow, desk, "begin none 01")
        self.refused(NoErrand, desk, "begin none 1")

    def test_what_is_refused_changes_nothing(self):
        desk = self.desk(SHOP_ROW, "begin main 4", "good 0.0 9")
        kept = desk.say("keep")
        for row in ("program x", "program ", "take x", "take ", "begin none", "begin main", "good 0.0", "off ", "x", None, 5, "size none", "diary 7.7"):
            with self.assertRaises(ErrandError):
                desk.say(row)
            self.talk(desk, ("keep", kept), ("waits", "0.1.1.0 moon 2"), ("size main", desk.say("size main")))
        self.talk(desk, ("good 0.1.1.0 1", "ok"), ("result", "good 9"))

    def test_each_row_again_tells_the_same(self):
        desk = self.desk(SHOP_ROW, "begin main 4")
        for row in ("waits", "result", "diary -", "diary 0.1", "keep", "size main"):
            self.assertEqual([desk.say(row) for _ in range(3)], [desk.say(row)] * 3)


class Whole(Desks):
    """From the text of a program by a desk to what the program means."""

    def held(self, desk, program, name, args, events):
        houses, asks = meant(program, name, args, events)
        waits = [f"{'.'.join(map(str, path))} {who} {n}" for path, who, n, _, end in asks if end == ()]
        self.assertEqual(desk.say("waits"), ", ".join(waits))
        end = houses[0][3]
        self.assertEqual(desk.say("result"), f"{end[0]} {end[1]}" if end else "none")
        for path, _, _, _, diary in houses:
            row = f"diary {'.'.join(map(str, path)) or '-'}"
            self.assertEqual(desk.say(row), ", ".join(f"{word} {n}" for _, word, n in diary))
        hall = read_hall(desk.say("keep").replace(" | ", "\n"))
        self.assertEqual((hall[0], tuple(one[:5] for one in hall[1]), hall[2]), (len(events), houses, asks))

    def go_on(self, desk, program, name, args, events, event):
        row = "off" if event == OFF else f"{'good' if event[2] else 'bad'} {'.'.join(map(str, event[1])) or '-'} {event[3]}"
        ahead, later = meant(program, name, args, events), meant(program, name, args, events + (event,))
        self.assertIn(desk.say(row), ("ok",) if ahead != later else ("late",) if event != OFF else ("ok", "late"))
        self.held(desk, program, name, args, events + (event,))
        return events + (event,)

    def test_shop(self):
        program = read(SHOP)
        desk = self.desk("program " + row_of(written(program)), "begin main 4")
        self.held(desk, program, "main", (4,), ())
        events = ()
        for event in (good((5, 5), 1), bad((0, 1, 0, 0), 6), OFF, good((0, 0), 7), good((0, 1, 1, 0), 8)):
            events = self.go_on(desk, program, "main", (4,), events, event)

    def test_whole(self):
        desk = self.desk("program " + row_of(written(WHOLE)), "begin main 3 4")
        events = ()
        for event in (good((0, 0), 5), good((1, 2), 6), OFF):
            events = self.go_on(desk, WHOLE, "main", (3, 4), events, event)
        self.assertEqual(desk.say("result"), "good 4")

    def test_by_dice(self):
        lines = 0
        for seed in range(120):
            dice = random.Random(seed)
            program = ProgramDice(dice, lively=seed % 3 > 0).program()
            name, args = program[0][0], tuple(dice.choice((0, 1, 2, 5)) for _ in program[0][1])
            desk = self.desk("program " + row_of(written(program)), " ".join(["begin", name] + [str(n) for n in args]))
            self.held(desk, program, name, args, ())
            events = ()
            for _ in range(dice.randint(1, 8)):
                waits = [tuple(map(int, one.split()[0].split("."))) for one in desk.say("waits").split(", ") if one]
                events = self.go_on(desk, program, name, args, events, some_event(dice, waits))
                if dice.random() < 0.3:
                    # Put away, and taken up at another desk.
                    kept, desk = desk.say("keep"), self.desk("program " + row_of(written(program)))
                    self.talk(desk, ("take " + kept, "ok"), ("keep", kept))
            lines += len(desk.say("keep").split(" | "))
        self.assertGreater(lines, 500)

    def test_begun_as_halls_are(self):
        program = read(SHOP)
        machines = shorter(program, *made(program))[0]
        desk = self.desk(SHOP_ROW, "begin main 4")
        self.assertEqual(read_hall(desk.say("keep").replace(" | ", "\n")), begun(machines, "main", (4,)))


if __name__ == "__main__":
    unittest.main()
