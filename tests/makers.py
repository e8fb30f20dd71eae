"""Programs in plenty, the same ones each time: lively ones, whose runs make, ask, change, throw and catch."""

import random

from warmrows.orders import order_of

KIND_NAMES = ("a", "b", "kind", "d", "thing", "run", "g")
FIELD_NAMES = ("x", "y", "end", "none", "w")
DEED_NAMES = ("go", "on", "deed", "if")
X_NAMES = ("t", "u", "v", "me", "else", "n")
PLAIN = ("let", "let", "put", "put", "drop", "tell", "tell", "tell", "do", "do", "give", "throw", "become",
         "turn", "strip", "elders")
NESTED = ("if", "while", "repeat", "try", "try")
PAIRS = ("plus", "minus", "less", "alike", "or")


class Maker:
    def __init__(self, seed):
        self.source = random.Random(seed)
        self.kinds = []
        self.left = 0

    def few(self, names, most):
        return tuple(self.source.sample(names, self.source.randint(0, min(most, len(names)))))

    def chance(self, percent):
        return self.source.randrange(100) < percent

    def program(self):
        rows = self.kind_rows(self.source.randint(1, 7))
        self.kinds = [row[0] for row in rows]
        pairs = [(kind, deed) for kind in self.kinds for deed in DEED_NAMES]
        self.source.shuffle(pairs)
        deeds = []
        for kind, deed in pairs[:self.source.randint(0, 8)]:
            deeds.append((kind, deed, self.few(X_NAMES, 2), self.body(6, self.source.choice((("me",), None)))))
        return (rows, tuple(deeds), self.body(16, None))

    def kind_rows(self, many):
        rows = []
        names = self.source.sample(KIND_NAMES, many)
        for name in names:
            elders = self.few([row[0] for row in rows], 3)
            family = tuple(row[:2] for row in rows) + ((name, elders),)
            if order_of(family, name)[0] == "quarrel":
                elders = ()
            rows.append((name, elders, self.few(FIELD_NAMES, 3)))
        return tuple(rows)

    def body(self, most, me):
        self.left = self.source.randint(0, most)
        first = []
        if me is None and self.left > 2 and self.chance(90):
            # Else there is seldom a thing to ask.
            for name in X_NAMES[:2]:
                first.append(("let", name, ("new", self.source.choice(self.kinds))))
            self.left -= 2
        return tuple(first) + self.block(2)

    def block(self, deep):
        statements = []
        while self.left > 0 and (deep == 2 or self.chance(65)):
            self.left -= 1
            statements.append(self.statement(deep))
        return tuple(statements)

    def statement(self, deep):
        if deep > 0 and self.chance(40):
            return self.nested(self.source.choice(NESTED), deep - 1)
        return self.plain(self.source.choice(PLAIN))

    def nested(self, word, deep):
        if word == "if":
            return (word, self.expression(3), self.block(deep), self.block(deep))
        if word == "try":
            return (word, self.block(deep), self.source.choice(X_NAMES), self.block(deep))
        if word == "repeat" and self.chance(80):
            return (word, self.source.randrange(4), self.block(deep))
        return (word, self.expression(3), self.block(deep))

    def plain(self, word):
        pick = self.source.choice
        if word == "let":
            return (word, pick(X_NAMES), self.expression(4))
        if word == "put":
            return (word, self.thing(3), pick(FIELD_NAMES), self.expression(4))
        if word == "drop":
            return (word, self.thing(3), pick(FIELD_NAMES))
        if word == "become":
            return (word, self.thing(3), pick(self.kinds))
        if word == "turn":
            return (word, pick(self.kinds), pick(DEED_NAMES), pick(self.kinds), pick(DEED_NAMES))
        if word == "strip":
            return (word, pick(self.kinds), pick(DEED_NAMES))
        if word == "elders":
            return (word, pick(self.kinds), self.few(self.kinds, 2))
        return (word, self.expression(4))

    def thing(self, within):
        """Most often a thing."""
        if within > 1 and self.chance(10):
            return self.expression(within)
        return self.source.choice((("me",), ("name", "t"), ("name", "u"), ("name", "t"), ("new", self.kinds[-1])))

    def expression(self, within):
        pick = self.source.choice
        if within <= 1 or self.chance(30):
            return pick((0, 1, 2, 7, 999999999, None, ("me",), ("name", pick(X_NAMES)), ("name", "n"), ("name", "t"),
                         ("new", pick(self.kinds))))
        if self.chance(45):
            return (pick(PAIRS), self.expression(within - 1), self.expression(within - 1))
        args = tuple(self.expression(within - 1) for _ in range(pick((0, 0, 1, 1, 2, 3))))
        if self.chance(20):
            return ("up", pick(DEED_NAMES), args)
        if self.chance(30):
            return ("get", self.thing(within - 1), pick(FIELD_NAMES))
        return ("ask", self.thing(within - 1), pick(DEED_NAMES), args)


def some_programs(seed, many):
    for number in range(many):
        yield Maker(f"{seed} {number}").program()
