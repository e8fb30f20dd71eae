"""A plain machine that tells states and asks by the words of the document, and what places make of asks."""

from plain_rows import PlainMachine
from warmrows.tables import behind, found, new_fields

NEW = ("cold", 0, (), (0, 0, 0, 0))


class PlainStates(PlainMachine):
    """Things keep their stories; stories are numbered as they first come."""

    def __init__(self, book, limit):
        self.stories = []
        self.shapes = [()]
        self.asks = []
        self.entered = []
        PlainMachine.__init__(self, book, limit)

    def shape(self, story):
        """The number of a story, all that begin it being numbered ahead."""
        for many in range(len(story) + 1):
            if story[:many] not in self.shapes:
                self.shapes.append(story[:many])
        return self.shapes.index(story)

    def state(self):
        self.told()
        frames = tuple((frame["body"], frame["home"], frame["row"], tuple(frame["names"]), tuple(frame["pile"]))
                       for frame in self.frames)
        things = tuple((kind, self.shape(story), tuple(fields.values()))
                       for (kind, fields), story in zip(self.things, self.stories))
        shapes = tuple((self.shapes.index(story[:-1]),) + story[-1] if story else () for story in self.shapes)
        return (self.steps, frames, things, self.table, shapes, tuple(self.events), self.ending)

    def note(self, who, number, answer):
        frame = self.frames[-1]
        self.asks.append((len(self.frames), frame["body"], frame["row"], who, number, answer))

    def number(self, kind):
        return dict((row[0], row[5]) for row in self.table)[kind]

    def ask(self, frame, word, deed, many):
        me = frame["pile"][len(frame["pile"]) - many - 1]
        if isinstance(me, tuple):
            kind = self.things[me[1]][0]
            if word == "ask":
                self.note(kind, self.number(kind), found(self.table, kind, deed))
            else:
                look = behind(self.table, kind, frame["home"], deed)
                self.note((kind, frame["home"]), self.number(kind), look)
        PlainMachine.ask(self, frame, word, deed, many)
        self.entered.append((len(self.asks) - 1, word, self.frames[-1]["body"]))

    def field(self, pile, word, part):
        if word == "new":
            story = tuple(("put", field) for field in new_fields(self.table, part))
            self.stories.append(story)
            self.note(part, self.number(part), self.shape(story))
        elif word != "become":
            value = pile[-2] if word == "put" else pile[-1]
            if isinstance(value, tuple):
                self.note_field(value[1], word, part)
        PlainMachine.field(self, pile, word, part)

    def note_field(self, number, word, part):
        fields, story = list(self.things[number][1]), self.stories[number]
        who = self.shape(story)
        where = fields.index(part) if part in fields else None
        if word == "put" and where is None:
            where = len(fields)
            story += (("put", part),)
        elif word == "drop" and where is not None:
            story += (("drop", part),)
        self.stories[number] = story
        self.note(who, 0, None if where is None else (where, self.shape(story)))


def plain_asked(warming, place, who, number, answer):
    """What comes of asking a place."""
    warm, few, cool, lay = warming
    standing, count, records, tally = place
    records = list(records)
    word, told = standing, answer
    if standing == "cold":
        count += 1
        if count > warm and answer is not None:
            standing, count, records = "warm", 0, [(who, number, answer)]
    elif standing == "wild":
        count += 1
        if count >= cool:
            standing, count = "cold", 0
    else:
        whos = [record[0] for record in records]
        hits = [record for record in records if record[:2] == (who, number)]
        word = "hit" if hits else "miss"
        if hits:
            told = hits[0][2]
        elif answer is not None and who in whos:
            records[whos.index(who)] = (who, number, answer)
        elif answer is not None and len(records) < few:
            records.append((who, number, answer))
        elif answer is not None:
            standing, records = "wild", []
    at = ("cold", "hit", "miss", "wild").index(word)
    tally = tally[:at] + (tally[at] + 1,) + tally[at + 1:]
    return ((standing, count, tuple(records), tally), word, told)


def places_by(warming, asks, places=()):
    """PLACES behind all these asks."""
    known = {place[:2]: place[2] for place in places}
    for _, body, row, who, number, answer in asks:
        known[body, row] = plain_asked(warming, known.get((body, row), NEW), who, number, answer)[0]
    return tuple(at + (known[at],) for at in sorted(known))


def counts_by(warming, machine, cools=()):
    """(FRAMES, LINES) of a machine's run, cooled ahead of the asks with these numbers."""
    known, lines, frames = {}, 0, 0
    entered = {at: (word, body) for at, word, body in machine.entered}
    for at, (_, body, row, who, number, answer) in enumerate(machine.asks):
        if at in cools:
            known = {}
        place, word, _ = plain_asked(warming, known.get((body, row), NEW), who, number, answer)
        known[body, row] = place
        if at in entered:
            deed, its = entered[at]
            rows, catches = machine.bodies[its][:2]
            fits = not catches and len(rows) <= 20 and not {"go", "unless", "keep", "round"} & {one[0] for one in rows}
            if deed == "ask" and word == "hit" and len(place[2]) == 1 and place[3][1] > warming[3] and fits:
                lines += 1
            else:
                frames += 1
    return (frames, lines)


def plain_fields(shapes, number):
    if number == 0:
        return []
    before, deed, field = shapes[number]
    fields = plain_fields(shapes, before)
    return fields + [field] if deed == "put" else [one for one in fields if one != field]


def plain_answer(row, who, table, shapes):
    """What looking tells a row, "none" where it comes to a shape that isn't there."""
    word, part = row[:2]
    if word == "ask":
        return found(table, who, part)
    if word == "up":
        return behind(table, who[0], who[1], part)
    steps = list(shapes)
    if word == "new":
        shape = 0
        for field in new_fields(table, who):
            if (shape, "put", field) not in steps:
                return "none"
            shape = steps.index((shape, "put", field))
        return shape
    fields = plain_fields(shapes, who)
    if part in fields and word in ("get", "put"):
        return (fields.index(part), who)
    if word == "get" or word == "drop" and part not in fields:
        return None
    where = len(fields) if word == "put" else fields.index(part)
    return (where, steps.index((who, word, part))) if (who, word, part) in steps else "none"


def plain_is_lie(book, state, body, row, record):
    table, shapes = state[3], state[4]
    its = book[1][body][0][row]
    who, number, answer = record
    if its[0] in ("get", "put", "drop"):
        if who not in range(len(shapes)):
            return True
        return answer != plain_answer(its, who, table, shapes)
    now = dict((kind[0], kind[5]) for kind in table)[who[0] if its[0] == "up" else who]
    if its[0] == "new" and answer is not None and answer not in range(len(shapes)):
        return True
    return number > now or number == now and answer != plain_answer(its, who, table, shapes)


def plain_lies(book, state, places):
    return tuple((body, row) + record[:2] for body, row, place in places for record in place[2]
                 if plain_is_lie(book, state, body, row, record))


def altered(source, book, state, places):
    """PLACES with places and some records left out, and with other records, of which none lies."""
    told = []
    for body, row, place in places:
        if source.random() < 0.2:
            continue
        records = []
        for record in place[2]:
            if source.random() < 0.25 and len(place[2]) > 1:
                continue
            other = other_record(source, book[1][body][0][row][0], record, state)
            records.append(record if plain_is_lie(book, state, body, row, other) else other)
        # Not all records are left out.
        told.append((body, row, place[:2] + (tuple(records or place[2][:1]),) + place[3:]))
    return tuple(told)


def other_record(source, word, record, state):
    """A record with another number or answer; it may lie."""
    who, number, answer = record
    if source.random() < 0.5:
        number = source.choice((0, max(0, number - 1), number + 1, 5))
    if source.random() < 0.5:
        if word in ("ask", "up"):
            kind = source.choice(state[3])
            answer = source.choice([(kind[0], body) for _, body in kind[4]] or [answer])
        else:
            shape = source.randrange(len(state[4]))
            answer = shape if word == "new" else (source.randrange(4), shape)
    return (who, number, answer)
