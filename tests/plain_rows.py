"""A plain machine for books, by the words of the point on rows: what a run by rows tells up to a limit."""

from warmrows.changes import changed
from warmrows.errors import NoChange
from warmrows.tables import behind, found, new_fields

MOST = 999999999


class Fault(Exception):
    pass


class Stop(Exception):
    pass


class PlainMachine:
    def __init__(self, book, limit):
        self.table, self.bodies = book
        self.limit = limit
        self.steps = 0
        self.events = []
        self.things = []
        self.frames = []
        self.ending = None
        self.seen = set()
        self.enter(0, None, None, [])

    def told(self):
        try:
            while self.ending is None:
                self.one_row()
        except Stop:
            pass
        things = tuple((kind, tuple(fields.items())) for kind, fields in self.things)
        return (self.ending, tuple(self.events), self.steps, things, self.table)

    def enter(self, body, home, me, args):
        names = [me] + list(args)
        names += [None] * (self.bodies[body][3] - len(names))
        self.frames.append({"body": body, "home": home, "row": 0, "names": names, "pile": []})

    def one_row(self):
        frame = self.frames[-1]
        row = self.bodies[frame["body"]][0][frame["row"]]
        self.seen.add((frame["body"], frame["row"]))
        try:
            frame["row"] = self.done(frame, *row)
        except Fault as fault:
            self.throw(fault.args[0])

    def throw(self, value):
        points = tuple((frame["body"], self.statement(frame)) for frame in self.frames)
        while self.frames:
            frame = self.frames[-1]
            for low, high, at, height in self.bodies[frame["body"]][1]:
                if low <= frame["row"] < high:
                    assert len(frame["pile"]) >= height
                    frame["pile"] = frame["pile"][:height] + [value]
                    frame["row"] = at
                    return
            self.frames.pop()
        self.ending = ("fault", value, points)

    def statement(self, frame):
        rows = self.bodies[frame["body"]][0][:frame["row"] + 1]
        return [row[1] for row in rows if row[0] == "mark"][-1]

    def thing(self, value):
        if not isinstance(value, tuple):
            raise Fault("nothing")
        return self.things[value[1]]

    def done(self, frame, word, *parts):
        """What a row does; the row at which its frame goes on."""
        pile, after = frame["pile"], frame["row"] + 1
        if word == "mark":
            if self.steps == self.limit:
                raise Stop
            self.steps += 1
        elif word == "push":
            pile.append(parts[0])
        elif word == "name":
            pile.append(frame["names"][parts[0]])
        elif word == "set":
            frame["names"][parts[0]] = pile.pop()
        elif word == "pop":
            pile.pop()
        elif word == "tell":
            self.events.append(pile.pop())
        elif word == "throw":
            raise Fault(pile.pop())
        elif word in ("plus", "minus", "less", "alike"):
            second, first = pile.pop(), pile.pop()
            pile.append(self.pair(word, first, second))
        elif word in ("go", "unless", "keep", "round"):
            return self.leap(word, parts[0], pile, after)
        elif word in ("turn", "strip", "elders"):
            self.change(word, *parts)
        elif word in ("ask", "up"):
            self.ask(frame, word, *parts)
        elif word == "give":
            self.give(pile.pop())
        else:
            self.field(pile, word, parts[0])
        return frame["row"] if word in ("ask", "up", "give") else after

    def pair(self, word, first, second):
        if word == "alike":
            return 1 if first == second else 0
        if not isinstance(first, int) or not isinstance(second, int):
            raise Fault("kind")
        if word == "less":
            return 1 if first < second else 0
        number = first + second if word == "plus" else first - second
        if abs(number) > MOST:
            raise Fault("great")
        return number

    def leap(self, word, to, pile, after):
        if word == "go":
            return to
        if word == "unless":
            return to if pile.pop() in (None, 0) else after
        if word == "keep":
            if pile[-1] not in (None, 0):
                return to
            pile.pop()
            return after
        number = pile.pop()
        if not isinstance(number, int):
            raise Fault("kind")
        if number < 1:
            return to
        pile.append(number - 1)
        return after

    def change(self, word, kind, *parts):
        if word == "turn":
            deed, other, its = parts
            look = found(self.table, other, its)
            if look is None:
                raise Fault("nodeed")
            change = ("own", kind, deed, look[1])
        elif word == "strip":
            change = ("own", kind, parts[0], None)
        else:
            change = ("elders", kind, parts[0])
        try:
            self.table = changed(self.table, change)
        except NoChange as error:
            raise Fault(error.word)

    def ask(self, frame, word, deed, many):
        pile = frame["pile"]
        args = pile[len(pile) - many:]
        me = pile[len(pile) - many - 1]
        del pile[len(pile) - many - 1:]
        kind = self.thing(me)[0]
        look = found(self.table, kind, deed) if word == "ask" else behind(self.table, kind, frame["home"], deed)
        if look is None:
            raise Fault("nodeed")
        if self.bodies[look[1]][2] != many:
            raise Fault("many")
        if len(self.frames) == 12:
            raise Fault("deep")
        self.enter(look[1], look[0], me, args)

    def give(self, value):
        self.frames.pop()
        if not self.frames:
            self.ending = ("gave", value)
            return
        self.frames[-1]["pile"].append(value)
        self.frames[-1]["row"] += 1

    def field(self, pile, word, part):
        if word == "new":
            self.things.append([part, {field: None for field in new_fields(self.table, part)}])
            pile.append(("thing", len(self.things) - 1))
            return
        value = pile.pop() if word == "put" else None
        thing = self.thing(pile.pop())
        if word == "become":
            thing[0] = part
        elif word == "put":
            thing[1][part] = value
        elif part not in thing[1]:
            raise Fault("nofield")
        elif word == "get":
            pile.append(thing[1][part])
        else:
            del thing[1][part]


def told_by_rows(book, limit):
    return PlainMachine(book, limit).told()
