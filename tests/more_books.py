"""Good books in plenty, the same ones each time, that are no programs': their rows are put together by chance."""

import random

from warmrows.looker import is_book

TABLE = (
    ("a", (), ("a",), ("x", "y"), (("go", 1), ("on", 2)), 0),
    ("b", ("a",), ("b", "a"), ("z",), (("go", 3),), 2),
    ("c", ("b",), ("c", "b", "a"), (), (("on", 4),), 1),
)
KINDS, FIELDS = ("a", "b", "c"), ("x", "y", "z", "w")
# How many values each deed takes; few are asked with others.
DEEDS = (("go", 0), ("on", 1)) * 6 + (("go", 1), ("no", 0), ("on", 3))


class BookMaker:
    """It lays rows one behind the other, none of which leaves less on the pile than the floor."""

    def __init__(self, seed):
        self.source = random.Random(seed)
        self.inner = False
        self.names = 0
        self.rows = []
        self.catches = []
        self.height = 0
        self.floor = 0

    def pick(self, *things):
        return self.source.choice(things)

    def chance(self, percent):
        return self.source.randrange(100) < percent

    def statement(self):
        return ("mark", self.source.randrange(100))

    def book(self):
        return (TABLE, tuple(self.body(params, first) for params, first in ((0, 1), (0, 0), (1, 0), (0, 0), (1, 0))))

    def body(self, params, first):
        self.inner = not first
        self.names = params + self.pick(1, 2, 4)
        self.rows, self.catches = [("mark", 0)], []
        self.height = self.floor = 0
        for _ in range(self.pick(3, 5) if first else self.pick(0, 0, 1, 2)):
            if first or self.chance(30):
                self.pick(self.loop, self.trial, self.trial, self.trial, self.trial, self.choice)(2)
            else:
                self.part(0)
        while self.height > 0 and self.chance(80):
            self.lay(self.pick(("pop",), ("tell",)), -1)
        if self.height == 0:
            self.lay(self.value(), 1)
        self.rows.append(("give",) if self.chance(90) else ("throw",))
        return (tuple(self.rows), tuple(self.catches), params, self.names)

    def lay(self, row, more):
        self.rows.append(row)
        self.height += more

    def value(self):
        return self.pick(("push", self.pick(0, 1, 2, 3, -5, 999999999)), ("push", None), ("new", self.pick(*KINDS)),
                         ("name", self.source.randrange(self.names)), ("name", 0), ("new", self.pick(*KINDS)))

    def part(self, deep):
        self.rows.append(self.statement())
        for _ in range(self.source.randint(1, 4)):
            self.row()
        if deep and self.chance(70):
            self.pick(self.loop, self.choice, self.trial, self.trial)(deep - 1)

    def row(self):
        if self.chance(50):
            self.thing()
        elif self.chance(30):
            self.rows.append(self.pick(
                ("turn", self.pick(*KINDS), self.pick("go", "on"), self.pick(*KINDS), self.pick("go", "on")),
                ("strip", self.pick(*KINDS), self.pick("go", "on")),
                ("elders", self.pick(*KINDS), self.pick((), ("a",), ("b",), ("b", "a")))))
        elif self.height < self.floor + 2 or self.chance(30):
            self.lay(self.value(), 1)
        elif self.chance(40):
            self.lay(self.pick(("plus",), ("minus",), ("less",), ("alike",), ("alike",)), -1)
        else:
            self.lay(self.pick(("tell",), ("pop",), ("set", self.source.randrange(self.names))), -1)

    def thing(self):
        if self.height < self.floor + 1 or self.chance(80):
            me = ("name", 0) if self.inner else ("new", "b")
            self.lay(self.pick(("new", self.pick(*KINDS)), ("new", "c"), me), 1)
        word = self.pick("get", "drop", "become", "put", "ask", "ask", "ask", "up", "up")
        if word in ("get", "drop"):
            self.lay((word, self.pick(*FIELDS)), 0 if word == "get" else -1)
        elif word == "become":
            self.lay((word, self.pick(*KINDS)), -1)
        elif word == "put":
            self.lay(self.value(), 1)
            self.lay((word, self.pick(*FIELDS)), -2)
        else:
            deed, many = self.pick(*DEEDS)
            for _ in range(many):
                self.lay(self.value(), 1)
            self.lay((word, deed, many), -many)

    def level(self, height):
        """Lay rows until the pile is as high as this."""
        while self.height > height:
            self.lay(self.pick(("pop",), ("tell",)), -1)
        while self.height < height:
            self.lay(self.value(), 1)

    def within(self, deep, floor, height):
        """Rows that leave at least a floor, and the pile at a height."""
        before = self.floor
        self.floor = max(before, floor)
        self.part(deep)
        self.level(height)
        self.floor = before

    def loop(self, deep):
        """Rounds that are counted on the pile, above what lies there."""
        self.lay(self.pick(("push", 2), ("push", 3), ("push", 4), self.value()), 1)
        mark, height = len(self.rows), self.height
        self.rows.append(self.statement())
        at = len(self.rows)
        self.rows.append(None)
        self.within(deep, height, height)
        self.rows.append(("go", mark))
        self.rows[at] = ("round", len(self.rows))
        self.height = height - 1
        self.rows.append(self.statement())

    def choice(self, deep):
        """Rows that are left out where a value is no, or yes."""
        self.lay(self.value(), 1)
        word = self.pick("unless", "keep")
        at = len(self.rows)
        self.rows.append(None)
        self.height -= 1
        self.within(deep, 0, self.height + (1 if word == "keep" else 0))
        self.rows[at] = (word, len(self.rows))
        self.rows.append(self.statement())

    def trial(self, deep):
        """A catch, which may cut the pile, over rows that leave as much as it needs."""
        low, height = len(self.rows), self.height
        floor = self.source.randint(self.floor, height)
        self.within(deep, floor, height)
        over = len(self.rows)
        self.rows.append(None)
        self.catches.append((low, over, len(self.rows), floor))
        self.height = floor + 1
        self.level(height)
        self.rows[over] = ("go", len(self.rows))
        self.rows.append(self.statement())


def some_books(seed, many):
    for number in range(many):
        book = BookMaker(f"{seed} {number}").book()
        if is_book(book):
            yield book
