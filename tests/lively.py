"""Programs in plenty, the same ones each time, whose loops ask the same rows again and again while kinds change."""

import random

from warmrows.orders import order_of
from warmrows.programs import is_program

FIELDS = ("x", "y", "w")
DEEDS = (("go", ()), ("on", ("p",)), ("at", ()), ("by", ("p",)))


class Lively:
    def __init__(self, seed):
        self.source = random.Random(seed)
        self.kinds = []

    def pick(self, *things):
        return self.source.choice(things)

    def chance(self, percent):
        return self.source.randrange(100) < percent

    def program(self):
        kinds = self.pick(
            (("a", (), ("x", "y")), ("b", ("a",), ("y",)), ("c", ("b", "a"), ()), ("d", (), ("x",))),
            (("a", (), ("x",)), ("b", (), ("y", "x")), ("c", ("a", "b"), ()), ("d", ("c",), ())),
            (("a", (), ()), ("b", ("a",), ("x",)), ("c", ("a",), ("y",)), ("d", ("b", "c"), ())))
        self.kinds = [row[0] for row in kinds]
        family = tuple(row[:2] for row in kinds)
        assert all(order_of(family, kind)[0] == "order" for kind in self.kinds)
        pairs = [("a", 0), ("a", 1)] + self.source.sample([(kind, at) for kind in self.kinds[1:] for at in range(4)], 4)
        pairs += self.source.sample([("a", 2), ("a", 3)], self.source.randint(0, 2))
        deeds = tuple((kind, DEEDS[at][0], DEEDS[at][1], self.deed(DEEDS[at][1])) for kind, at in pairs)
        program = (kinds, deeds, self.run())
        assert is_program(program), program
        return program

    def name(self):
        return ("name", self.pick("t", "t", "u"))

    def value(self, params):
        return self.pick(1, 2, None, ("me",), ("get", ("me",), self.pick("x", "x", "y")),
                         ("new", self.pick(*self.kinds)), *[("name", param) for param in params * 3])

    def asking(self, thing, params):
        deed, its = self.pick(*DEEDS)
        if self.chance(4):
            its = its + ("p",)
        args = tuple(self.value(params) if thing == ("me",) else self.pick(1, 2, ("name", "n")) for _ in its)
        if thing == ("me",) and self.chance(60):
            return ("up", deed, args)
        return ("ask", thing, deed, args)

    def deed(self, params):
        """A straight body, which may be gone through in line, or another one."""
        block = tuple(self.plain(("me",), params) for _ in range(self.pick(0, 1, 1, 2)))
        if self.chance(20):
            block += (self.pick(("if", self.value(params), block[:1], ()),
                                ("try", (self.plain(("me",), params),), "v", (("tell", ("name", "v")),)),
                                ("repeat", 2, block[:1])),)
        return block + (("give", self.pick(7, ("me",), self.value(params), self.asking(("me",), params))),)

    def plain(self, thing, params=()):
        word = self.pick("tell", "tell", "put", "put", "drop", "become", "turn", "strip", "elders", "do", "do", "do",
                         "throw")
        kind, other = self.pick(*self.kinds), self.pick(*self.kinds)
        if word in ("tell", "do"):
            return (word, self.pick(self.asking(thing, params), self.asking(thing, params), ("get", thing, "x")))
        if word == "put":
            return (word, thing, self.pick(*FIELDS), self.pick(1, thing, ("new", kind)))
        if word == "drop":
            return (word, thing, self.pick(*FIELDS))
        if word == "become":
            return (word, thing, kind) if self.chance(40) else ("tell", thing)
        if word == "turn":
            return (word, kind, self.pick(*DEEDS)[0], other, self.pick(*DEEDS)[0])
        if word == "strip":
            return (word, kind, self.pick(*DEEDS)[0]) if self.chance(50) else ("do", ("new", kind))
        if word == "elders":
            return (word, kind, tuple(self.source.sample(self.kinds, self.source.randint(0, 2))))
        return (word, self.pick(5, thing)) if self.chance(40) else ("do", self.asking(thing, params))

    def run(self):
        """Loops over asks, each in a try, so that few faults end it; kinds change in some round."""
        last = self.kinds[-1]
        head = (("let", "t", ("new", self.pick("c", last))), ("let", "u", ("new", self.pick(*self.kinds))))
        count = (("let", "n", ("plus", ("name", "n"), 1)),)
        trial = tuple(self.pick(("tell", self.asking(self.name(), ())), self.plain(self.name()))
                      for _ in range(self.source.randint(1, 4)))
        change = (("if", ("alike", ("name", "n"), self.pick(3, 5, 6)), (self.plain(self.name()),), ()),)
        parts = [("try", trial, "v", (("tell", ("name", "v")),))]
        if self.chance(50):
            parts += [change[0]]
        if self.chance(40):
            parts += [self.plain(self.name())]
        self.source.shuffle(parts)
        loop = ("while", ("less", ("name", "n"), self.pick(4, 7, 12)), count + tuple(parts))
        return head + (("let", "n", 0), loop, ("tell", self.asking(self.name(), ())))


def some_lively(seed, many):
    for number in range(many):
        yield Lively(f"{seed} {number}").program()
