"""The meaning by hours a second time, in another way: houses as Python's generators, faults as its errors."""

from errandroom.worths import worth


class Fault(Exception):
    def __init__(self, number):
        self.number = number


class GoesOut(Exception):
    pass


class Gives(Exception):
    def __init__(self, number):
        self.number = number


def do_places(block, place=()):
    """The places of all dos as they stand in the text."""
    found = []
    for i, row in enumerate(block):
        here = place + (i,)
        if row[0] == "do":
            found.append(here)
        blocks = [part for part in row[1:] if isinstance(part, tuple) and row[0] in ("if", "while", "try", "do")]
        if row[0] in ("if", "while"):
            blocks = list(row[2:])
        for number, inner in enumerate(blocks):
            found += do_places(inner, here + (number,))
    return found


class OracleHouse:
    def __init__(self, run, path, name, args, hour):
        self.run, self.path, self.name, self.begun, self.end, self.diary = run, path, name, hour, (), []
        (errand,) = [one for one in run.program if one[0] == name]
        self.held = dict.fromkeys(["a", "b", "c", "x", "y", "z", "yy", "end"], 0)
        self.held.update(zip(errand[1], args))
        self.dos = do_places(errand[2])
        self.wants = self.rounds = self.undoings = 0
        self.called = False
        self.want = None
        self.life = self.live(errand[2])
        self.go_on()

    def note(self, word, number):
        self.diary.append((self.run.hour, word, number))

    def worth(self, one):
        return worth(one, self.held)

    def go_on(self):
        try:
            self.want = next(self.life)
        except StopIteration as stop:
            self.want = None
            self.end = stop.value + (self.run.hour,)

    def live(self, block):
        try:
            yield from self.block(block, ())
        except Gives as give:
            return ("good", give.number)
        except Fault as fault:
            return ("bad", fault.number)
        except GoesOut:
            return ("off", 0)
        return ("good", 0)

    def block(self, block, place):
        for i, row in enumerate(block):
            yield from getattr(self, "row_" + row[0])(row, place + (i,))

    def row_set(self, row, place):
        self.held[row[1]] = self.worth(row[2])
        yield from ()

    def row_tell(self, row, place):
        self.note("tell", self.worth(row[1]))
        yield from ()

    def row_give(self, row, place):
        raise Gives(self.worth(row[1]))
        yield

    def row_fail(self, row, place):
        raise Fault(self.worth(row[1]))
        yield

    def row_if(self, row, place):
        which = 0 if self.worth(row[1]) else 1
        yield from self.block(row[2 + which], place + (which,))

    def row_while(self, row, place):
        while self.worth(row[1]):
            if self.rounds >= 16:
                raise Fault(1)
            self.rounds += 1
            yield from self.block(row[2], place + (0,))

    def row_try(self, row, place):
        try:
            yield from self.block(row[1], place + (0,))
        except Fault as fault:
            if row[2] is not None:
                self.held[row[2]] = fault.number
        else:
            return
        yield from self.block(row[3], place + (1,))

    def row_do(self, row, place):
        number = self.dos.index(place)
        self.note("do", number)
        try:
            yield from self.block(row[1], place + (0,))
            self.note("done", number)
            return
        except Gives:
            self.note("done", number)
            raise
        except (Fault, GoesOut) as error:
            under_way = error
        self.note("undo", number)
        self.undoings += 1
        try:
            yield from self.block(row[2], place + (1,))
        except Fault as fault:
            under_way = fault
        self.undoings -= 1
        self.note("undone", number)
        raise GoesOut() if self.called and self.undoings == 0 else under_way

    def row_want(self, row, place):
        if self.wants >= 5:
            raise Fault(3)
        begun = []
        self.wants += 1
        for number, branch in enumerate(row[2]):
            begun.append(self.run.begin(self, branch, self.path + (self.wants - 1, number)))
        yield OracleWant(row[1], begun)
        if self.called and self.undoings == 0:
            raise GoesOut()
        ends = [branch.end for branch in begun]
        good = [end for end in ends if end[0] == "good"]
        if len(good) < row[1]:
            raise Fault([end for end in ends if end[0] == "bad"][0][1])
        for branch, end in zip(row[2], ends):
            if branch[0] is not None and end[0] == "good":
                self.held[branch[0]] = end[1]


class OracleWant:
    def __init__(self, least, begun):
        self.least, self.begun, self.decided = least, begun, False

    def over(self):
        return all(branch.end for branch in self.begun)

    def due(self):
        words = [branch.end[:1] for branch in self.begun]
        good, bad = words.count(("good",)), words.count(("bad",))
        return not self.decided and (good >= self.least or len(words) - bad < self.least)


class OracleAsk:
    def __init__(self, path, who, number, hour):
        self.path, self.who, self.number, self.sent, self.end = path, who, number, hour, ()


class OracleNone:
    def __init__(self, hour):
        self.end = ("bad", 2, hour)


class OracleRun:
    house = OracleHouse

    def __init__(self, program, name, args, events):
        self.program, self.hour, self.houses, self.asks = program, 0, [], []
        first = self.house(self, (), name, args, 0)
        self.houses.append(first)
        self.settle()
        for event in events:
            self.hour += 1
            if event[0] == "off":
                self.call_off(first)
            for ask in self.asks:
                if event[0] == "answer" and ask.path == event[1] and not ask.end:
                    ask.end = ("good" if event[2] else "bad", event[3], self.hour)
            self.settle()

    def begin(self, house, branch, path):
        if branch[1] == "ask":
            self.asks.append(OracleAsk(path, branch[2], house.worth(branch[3]), self.hour))
            return self.asks[-1]
        if len(path) > 4:
            return OracleNone(self.hour)
        self.houses.append(self.house(self, path, branch[2], [house.worth(one) for one in branch[3]], self.hour))
        return self.houses[-1]

    def settle(self):
        """What can go on does; only then, deepest ahead, is one want decided; and so over again."""
        while True:
            ready = [house for house in self.houses if house.want is not None and house.want.over()]
            if ready:
                ready[0].go_on()
                continue
            due = [house for house in self.houses if house.want is not None and house.want.due()]
            due = [house for house in due if not house.called or house.undoings]
            if not due:
                return
            house = max(due, key=lambda one: len(one.path))
            house.want.decided = True
            for branch in house.want.begun:
                self.call_off(branch)

    def call_off(self, branch):
        if branch.end:
            return
        if isinstance(branch, OracleAsk):
            branch.end = ("off", 0, self.hour)
        elif not branch.called:
            branch.called = True
            if not branch.undoings:
                for inner in branch.want.begun:
                    self.call_off(inner)

    def told(self):
        houses = [(one.path, one.name, one.begun, one.end, tuple(one.diary)) for one in self.houses]
        asks = [(one.path, one.who, one.number, one.sent, one.end) for one in self.asks]
        return (tuple(sorted(houses)), tuple(sorted(asks)))
