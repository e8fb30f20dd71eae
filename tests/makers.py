"""Programs in plenty, the same ones each time: lively ones, whose runs make, ask, change, throw and catch."""

import random

from warmrows.orders import order_of

KIND_NAMES = ("a", "b", "kind", "d", "thing", "run", "g")
FIELD_NAMES = ("x", "y", "end", "none")
DEED_NAMES = ("go", "on", "deed", "if")
X_NAMES = ("t", "u", "v", "me", "else", "n")
PARAM_NAMES = ("v", "n", "me")
PLAIN = ("let", "let", "put", "put", "drop", "tell", "tell", "tell", "do", "do", "give", "throw", "become",
         "turn", "strip", "elders")
NESTED = ("if", "while", "repeat", "try", "try", "try")
NUMBERS = (0, 1, 1, 2, 3, 999999999)


class Maker:
    def __init__(self, seed):
        self.source = random.Random(seed)
        self.kinds = []
        self.deeds = []
        self.things = []
        self.left = 0

    def few(self, names, most):
        return tuple(self.source.sample(names, self.source.randint(0, min(most, len(names)))))

    def pick(self, *things):
        return self.source.choice(things)

    def chance(self, percent):
        return self.source.randrange(100) < percent

    def program(self):
        rows = self.kind_rows(self.pick(1, 2, 3, 3, 4, 5, 6, 7))
        self.kinds = [row[0] for row in rows]
        pairs = [(kind, deed) for kind in self.kinds for deed in DEED_NAMES]
        self.source.shuffle(pairs)
        if self.chance(80):
            # The deeds that the last kind finds come first.
            order = order_of(tuple(row[:2] for row in rows), self.kinds[-1])[1]
            pairs = [pair for pair in pairs if pair[0] in order] + [pair for pair in pairs if pair[0] not in order]
        for kind, deed in pairs[:self.pick(0, 2, 3, 4, 5, 6, 8)]:
            self.deeds.append((kind, deed, self.few(PARAM_NAMES, self.pick(0, 1, 1, 3))))
        self.things = [("me",)]
        deeds = tuple(head + (self.body(self.pick(1, 3, 6)),) for head in self.deeds)
        self.things = [("name", "t"), ("name", "u")]
        return (rows, deeds, self.run())

    def kind_rows(self, many):
        rows = []
        names = self.source.sample(KIND_NAMES, many)
        for name in names:
            elders = self.few([row[0] for row in rows], 3)
            family = tuple(row[:2] for row in rows) + ((name, elders),)
            if order_of(family, name)[0] == "quarrel":
                elders = ()
            rows.append((name, elders, self.few(FIELD_NAMES, 3)))
        return tuple(rows)

    def run(self):
        # Else there is seldom a thing to ask.
        first = [("let", "t", ("new", self.kinds[-1])), ("let", "u", ("new", self.pick(self.kinds[-1], *self.kinds)))]
        self.left = self.source.randint(0, 14)
        return tuple(first) + self.block(2) if self.chance(90) else self.block(2)

    def body(self, most):
        self.left = self.source.randint(0, most)
        return self.block(2)

    def block(self, deep):
        statements = []
        while self.left > 0 and (deep == 2 or self.chance(70)):
            self.left -= 1
            statements.append(self.statement(deep))
        return tuple(statements)

    def statement(self, deep):
        # Else most runs end with their first fault.
        if deep == 2 and self.things != [("me",)] and self.chance(50):
            return self.nested("try", deep - 1)
        if deep > 0 and self.chance(45):
            return self.nested(self.pick(*NESTED), deep - 1)
        return self.plain(self.pick(*PLAIN), deep)

    def nested(self, word, deep):
        if word == "if":
            return (word, self.value(3), self.block(deep), self.block(deep))
        if word == "try":
            return (word, self.block(deep), self.pick("v", "n", "me", "else"), self.block(deep))
        if word == "repeat":
            return (word, self.pick(0, 1, 2, 3, self.number(3)), self.block(deep))
        return (word, self.pick(None, ("less", self.number(2), self.number(2)), self.value(3)), self.block(deep))

    def plain(self, word, deep):
        kind, other = self.pick(*self.kinds), self.pick(*self.kinds)
        if word == "let":
            return (word, self.pick("v", "n", "me", "else"), self.value(4))
        if word == "put":
            return (word, self.thing(3), self.pick(*FIELD_NAMES), self.value(4))
        if word == "drop":
            return (word, self.thing(3), self.pick(*FIELD_NAMES))
        if word == "become":
            return (word, self.thing(3), kind)
        if word == "turn":
            return (word, kind, self.deed()[0], other, self.deed()[0])
        if word == "strip":
            return (word, kind, self.deed()[0])
        if word == "elders":
            return (word, kind, self.few(self.kinds, 2))
        if word in ("give", "throw") and deep == 2 and self.chance(70):
            # Else little is run.
            word = "tell"
        return (word, self.asking(4) if self.chance(50) else self.value(4))

    def deed(self):
        """A deed and how many args it takes, most often one that is there."""
        if self.deeds and self.chance(90):
            return self.pick(*[(deed, len(params)) for kind, deed, params in self.deeds])
        return (self.pick(*DEED_NAMES), self.source.randrange(4))

    def thing(self, within):
        if self.chance(92):
            return self.pick(*self.things)
        return self.value(within)

    def number(self, within):
        if within > 1 and self.chance(40):
            return (self.pick("plus", "minus", "less"), self.number(within - 1), self.number(within - 1))
        if self.chance(10):
            return self.value(within)
        return self.pick(*NUMBERS)

    def value(self, within):
        if within <= 1 or self.chance(25):
            return self.pick(0, 1, 2, None, ("me",), ("name", self.pick(*X_NAMES)), ("name", "n"), ("name", "v"),
                             ("new", self.pick(*self.kinds)))
        if self.chance(20):
            return self.number(within)
        if self.chance(25):
            return (self.pick("alike", "or", "or"), self.value(within - 1), self.value(within - 1))
        if self.chance(20):
            return ("get", self.thing(within - 1), self.pick(*FIELD_NAMES))
        return self.asking(within)

    def asking(self, within):
        deed, many = self.deed()
        args = tuple(self.value(within - 1) for _ in range(many))
        if self.chance(50) and self.things == [("me",)]:
            return ("up", deed, args)
        return ("ask", self.thing(within - 1), deed, args)


def some_programs(seed, many):
    for number in range(many):
        yield Maker(f"{seed} {number}").program()
