"""Places, the judge of makings and runs of machines a second time, in another way: from the outside inwards, and with
houses as Python's generators."""

from errandroom.worths import slot_worth
from oracle import OracleHouse, OracleRun, OracleWant


class Map:
    """All that is to be known of an errand's places, by one walk inwards."""

    def __init__(self, errand):
        self.row, self.slides, self.fall, self.off, self.dones, self.done_at = {}, {}, {}, {}, {}, {}
        self.dos = []
        self.block(errand[2], (), (None, None, ()), None)

    def put(self, place, around):
        self.row[place] = None
        self.fall[place], self.off[place], self.dones[place] = around
        self.slides[place] = place

    def block(self, block, ahead, around, end_slides_to):
        for i, row in enumerate(block):
            self.put(ahead + (i,), around)
            self.row[ahead + (i,)] = row
            getattr(self, "in_" + row[0], self.in_other)(row, ahead + (i,), around)
        end = ahead + (len(block),)
        self.put(end, around)
        if end_slides_to is not None:
            self.slides[end] = end_slides_to

    def in_other(self, row, place, around):
        pass

    def in_if(self, row, place, around):
        self.block(row[2], place + (0,), around, behind(place))
        self.block(row[3], place + (1,), around, behind(place))

    def in_while(self, row, place, around):
        self.put(place + (0,), around)
        self.block(row[2], place + (0,), around, place)

    def in_try(self, row, place, around):
        self.slides[place] = place + (0, 0)
        self.block(row[1], place + (0,), (("catch", row[2], place + (1, 0)), around[1], around[2]), behind(place))
        self.block(row[3], place + (1,), around, behind(place))

    def in_do(self, row, place, around):
        d = len(self.dos)
        self.dos.append(place)
        off = "shut" if around[1] == "shut" else place + (1,)
        self.block(row[1], place + (0,), (("undo", d, place + (1,)), off, (d,) + around[2]), None)
        undone = place + (1, len(row[2]))
        within = (("undo", d, undone), "shut", ())
        self.put(place + (1,), within)
        self.block(row[2], place + (1,), within, None)
        self.put(undone, around)

    def slid(self, place):
        while self.slides[place] != place:
            place = self.slides[place]
        return place


def behind(place):
    return place[:-1] + (place[-1] + 1,)


def names_in(one):
    if isinstance(one, str):
        return {one}
    return names_in(one[1]) | names_in(one[2]) if isinstance(one, tuple) else set()


class Unkept(Exception):
    pass


def ask(holds):
    if not holds:
        raise Unkept()


def by_slots(one, held):
    """The E by slots, where held is a set of pairs."""
    if isinstance(one, str):
        found = [slot for key, slot in held if key == one]
        ask(len(found) == 1)
        return ("slot", found[0])
    return (one[0], by_slots(one[1], held), by_slots(one[2], held)) if isinstance(one, tuple) else one


def lie(held, key, slot):
    return {pair for pair in held if pair[0] != key and pair[1] != slot} | ({(key, slot)} if slot is not None else set())


class OracleJudge:
    """Tells all rooms that are not kept."""

    def __init__(self, program, machines, paper):
        self.unkept = []
        for m, errand in enumerate(program):
            self.errand, self.machine, self.pairs, self.map = errand, machines[m], paper[m], Map(errand)
            names = set(errand[1])
            for row in self.map.row.values():
                names |= names_of_row(row)
            self.keys = names | {str(d) for d in range(len(self.map.dos))}
            for r in range(len(self.machine[3])):
                try:
                    self.first(r)
                    self.room(r)
                except Unkept:
                    self.unkept.append((m, r))

    def first(self, r):
        if r == 0:
            params = self.errand[1]
            ask(self.machine[0] == self.errand[0] and self.machine[1] == len(params))
            ask(self.slides_alike(self.pairs[0][0], (0,)))
            for key, slot in self.pairs[0][1]:
                ask((key, slot) in list(zip(params, range(9))) or (key not in params and slot >= len(params)))
                ask(not key[0].isdigit())

    def slides_alike(self, place, other):
        return place in self.map.row and self.map.slid(place) == self.map.slid(other)

    def leads(self, r, place, held, free=None):
        ask(self.slides_alike(self.pairs[r][0], place))
        ask(all((key, slot) in held or key == free for key, slot in self.pairs[r][1]))

    def room(self, r):
        rows, door, fall, off = self.machine[3][r]
        place, kept = self.pairs[r]
        ask(place in self.map.row and all(key in self.keys for key, _ in kept))
        held, place, left = set(kept), self.map.slid(place), list(rows)
        while left:
            here = self.map.row[place]
            dones = self.map.dones[place]
            if here is not None and here[0] == "give":
                for d in dones:
                    ask(left and left.pop(0) == ("mark", "done", d))
                ask(not left)
                return self.last(door, fall, off, place, held)
            row = left.pop(0)
            if here is not None:
                if here[0] == "set":
                    ask(row[0] == "put" and row[2] == by_slots(here[2], held))
                    held = lie(held, here[1], row[1])
                elif here[0] == "tell":
                    ask(row == ("tell", by_slots(here[1], held)))
                else:
                    ask(here[0] == "do" and row == ("mark", "do", self.map.dos.index(place)))
                place = place + (0, 0) if here[0] == "do" else behind(place)
            elif place[:-1] in self.map.dos:
                ask(row == ("mark", "undo", self.map.dos.index(place[:-1])))
                place += (0,)
            else:
                ask(len(place) > 1 and place[:-2] in self.map.dos)
                d = self.map.dos.index(place[:-2])
                if place[-2] == 1:
                    ask(row == ("mark", "undone", d) and not left and door[0] == "out")
                    return self.last(door, fall, off, place, held)
                ask(row == ("mark", "done", d))
                place = behind(place[:-2])
            place = self.map.slid(place)
        if door[0] == "go":
            ask(rows and (fall, off) == (None, None))
            return self.leads(door[1], place, held)
        # Marks that are due ahead of a door have been looked for above, where there are rows.
        here = self.map.row[place]
        ask(not (here is not None and here[0] == "give" and self.map.dones[place]))
        ask(door[0] != "out")
        self.last(door, fall, off, place, held)

    def last(self, door, fall, off, place, held):
        here = self.map.row[place]
        word = "" if here is None else here[0]
        if door[0] == "give":
            if len(place) == 1 and here is None:
                ask(door == ("give", 0))
            else:
                ask(word == "give" and door[1] == by_slots(here[1], held))
        elif door[0] == "fail":
            ask(word == "fail" and door[1] == by_slots(here[1], held))
        elif door[0] == "fork":
            ask(word in ("if", "while") and door[1] == by_slots(here[1], held))
            self.leads(door[2], place + ((0, 0) if word == "if" else (0,)), held)
            self.leads(door[3], place + (1, 0) if word == "if" else behind(place), held)
        elif door[0] == "round":
            ask(len(place) % 2 == 0 and self.map.row[place[:-1]][0] == "while")
            self.leads(door[1], place + (0,), held)
        elif door[0] == "out":
            ask((str(self.map.dos.index(place[:-2])), door[1]) in held)
        else:
            ask(door[0] == "want" and word == "want" and door[1] == here[1] and len(door[2]) == len(here[2]))
            self.want(door, here, place, held)
        self.fall(door, fall, place, held)
        self.off(door, off, place, held)

    def want(self, door, here, place, held):
        after = set(held)
        for branch, wanted in zip(door[2], here[2]):
            ask(branch[1:3] == wanted[1:3])
            ones = (wanted[3],) if branch[1] == "ask" else wanted[3]
            told = (branch[3],) if branch[1] == "ask" else branch[3]
            ask(tuple(by_slots(one, held) for one in ones) == told)
            x, s = wanted[0], branch[0]
            if x is None:
                ask(s is None)
            elif s is None or door[1] == len(door[2]) or (x, s) in after:
                after = lie(after, x, s)
            else:
                after = {pair for pair in after if pair[0] != x and pair[1] != s}
        self.leads(door[3], behind(place), after)

    def fall(self, door, fall, place, held):
        due = self.map.fall[place] if door[0] in ("fail", "round", "want", "out") else None
        if due is None or fall is None:
            return ask(due is None and fall is None)
        if due[0] == "undo":
            ask(fall[0] is not None)
            held = lie(held, str(due[1]), fall[0])
        elif due[1] is None:
            ask(fall[0] is None)
        else:
            held = lie(held, due[1], fall[0])
        self.leads(fall[1], due[2], held)

    def off(self, door, off, place, held):
        due = self.map.off[place] if door[0] in ("want", "out") else None
        if not isinstance(due, tuple):
            return ask(off == due)
        ask(off is not None and off != "shut")
        self.leads(off, due, held, str(self.map.dos.index(due[:-1])))


def names_of_row(row):
    if row is None or row[0] == "do":
        return set()
    if row[0] == "want":
        found = {branch[0] for branch in row[2]}
        for branch in row[2]:
            for one in (branch[3],) if branch[1] == "ask" else branch[3]:
                found |= names_in(one)
        return found - {None}
    if row[0] == "try":
        return {row[2]} - {None}
    return {row[1]} | names_in(row[2]) if row[0] == "set" else names_in(row[1])


class OracleMachineHouse(OracleHouse):
    def __init__(self, run, path, name, args, hour):
        self.run, self.path, self.name, self.begun, self.end, self.diary = run, path, name, hour, (), []
        (self.machine,) = [one for one in run.program if one[0] == name]
        self.slots = (list(args) + [0] * 32)[:self.machine[2]]
        self.wants = self.rounds = self.undoings = self.room = 0
        self.called = False
        self.want = None
        self.handed, self.called_at, self.steps = tuple(args), (), []
        self.life = self.live_in_rooms()
        self.go_on()

    def worth(self, one):
        return slot_worth(one, self.slots)

    def state(self):
        return () if self.end else (self.room, tuple(self.slots), self.wants, self.rounds, self.called)

    def live_in_rooms(self):
        while True:
            self.steps.append((self.run.hour, self.room, tuple(self.slots)))
            rows, door, fall, off = self.machine[3][self.room]
            self.undoings = 1 if off == "shut" else 0
            for row in rows:
                if row[0] == "put":
                    self.slots[row[1]] = self.worth(row[2])
                else:
                    self.note(*(("tell", self.worth(row[1])) if row[0] == "tell" else row[1:]))
            end = yield from self.through(door)
            if end[0] == "fault":
                if fall is not None:
                    self.room = fall[1]
                    if fall[0] is not None:
                        self.slots[fall[0]] = end[1]
                    continue
                end = ("bad", end[1])
            if end[0] == "out" and off is not None:
                self.room = off
            elif end[0] == "on":
                self.room = end[1]
            else:
                return ("off", 0) if self.called else end

    def through(self, door):
        word = door[0]
        out = self.called and not self.undoings
        if word == "go":
            return ("on", door[1])
        if word == "fork":
            return ("on", door[2 if self.worth(door[1]) else 3])
        if word == "round":
            self.rounds += 1
            if self.rounds > 16:
                self.rounds = 16
                return ("fault", 1)
            return ("on", door[1])
        if word == "give":
            return ("good", self.worth(door[1]))
        if word == "fail":
            return ("fault", self.worth(door[1]))
        if word == "out":
            return ("out",) if out else ("fault", self.slots[door[1]])
        return ("out",) if out else (yield from self.through_want(door))

    def through_want(self, door):
        if self.wants >= 5:
            return ("fault", 3)
        self.wants += 1
        begun = []
        for number, branch in enumerate(door[2]):
            begun.append(self.run.begin(self, branch, self.path + (self.wants - 1, number)))
        yield OracleWant(door[1], begun)
        if self.called and not self.undoings:
            return ("out",)
        ends = [branch.end for branch in begun]
        if [end[0] for end in ends].count("good") < door[1]:
            return ("fault", [end for end in ends if end[0] == "bad"][0][1])
        for branch, end in zip(door[2], ends):
            if branch[0] is not None and end[0] == "good":
                self.slots[branch[0]] = end[1]
        return ("on", door[3])


class OracleHall(OracleRun):
    house = OracleMachineHouse

    def call_off(self, branch):
        ahead = getattr(branch, "called", False)
        super().call_off(branch)
        if getattr(branch, "called", False) and not ahead:
            branch.called_at = (self.hour,)

    def story(self):
        houses = [(one.path, one.name, one.handed, one.begun, one.called_at, tuple(one.steps), one.end) for one in self.houses]
        return (tuple(sorted(houses)), self.told()[1])

    def hall(self):
        houses, asks = self.told()
        states = {house.path: house.state() for house in self.houses}
        return (self.hour, tuple(house + (states[house[0]],) for house in houses), asks)


class OracleNeeds:
    """What is read at each place, and where it leads: triples of a place, the next one and what is set on the way."""

    def __init__(self, errand):
        self.map = Map(errand)
        self.reads, self.leads = {}, []
        self.keys = set(errand[1]) | {str(d) for d in range(len(self.map.dos))}
        for place, row in self.map.row.items():
            self.keys |= names_of_row(row)
            if self.map.slid(place) == place:
                self.reads[place] = self.read(place, row)
                self.lead(place, row)

    def read(self, place, row):
        if row is None:
            ends = len(place) % 2 == 1 and len(place) > 1 and place[-2] == 1
            return {str(self.map.dos.index(place[:-2]))} if ends else set()
        if row[0] == "want":
            found = set()
            for branch in row[2]:
                for one in (branch[3],) if branch[1] == "ask" else branch[3]:
                    found |= names_in(one)
            return found
        return names_in(row[2]) if row[0] == "set" else set() if row[0] == "do" else names_in(row[1])

    def on(self, place, there, keys=()):
        self.leads.append((place, self.map.slid(there), set(keys)))

    def lead(self, place, row):
        word = "" if row is None else row[0]
        if word in ("set", "tell"):
            self.on(place, behind(place), [row[1]] if word == "set" else [])
        if word == "if":
            self.on(place, place + (0, 0))
            self.on(place, place + (1, 0))
        if word == "while":
            self.on(place, place + (0,))
            self.on(place, behind(place))
        if word == "do":
            self.on(place, place + (0, 0))
        if word == "want":
            names = [branch[0] for branch in row[2] if branch[0] is not None]
            self.on(place, behind(place), names if row[1] == len(row[2]) else [])
        undone = False
        if word == "" and len(place) > 1:
            is_round = len(place) % 2 == 0 and self.map.row[place[:-1]][0] == "while"
            undone = len(place) % 2 == 1 and place[-2] == 1
            if len(place) % 2 == 0:
                self.on(place, place + (0,))
            elif not undone:
                self.on(place, behind(place[:-2]))
            word = "round" if is_round else word
        if word in ("fail", "want", "round") or undone:
            fall = self.map.fall[place]
            if fall is not None:
                self.on(place, fall[2], {str(fall[1]) if fall[0] == "undo" else fall[1]} - {None})
        if word == "want" or undone:
            off = self.map.off[place]
            if isinstance(off, tuple):
                self.on(place, off, [str(self.map.dos.index(off[:-1]))])

    def needed(self, key):
        """The places (slid) at which the key is needed, from those at which it is read backwards."""
        found = {place for place, keys in self.reads.items() if key in keys}
        while True:
            more = {one for one, there, keys in self.leads if there in found and key not in keys} - found
            if not more:
                return found
            found |= more
