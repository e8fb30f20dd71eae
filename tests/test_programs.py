import unittest

from things import ANY, ELDERS_QUARREL, alien_at_each_place, homely_at_each_place, places, part_at, with_part
from things import plain_is_family, plain_is_name
from warmrows.orders import order_of
from warmrows.programs import is_program, table_of
from warmrows.tables import is_table

KINDS = (("a", (), ("x", "y")), ("b", ("a",), ()), ("c", ("b", "a"), ("z",)))

EXPRESSIONS = (
    0, 999999999, None, ("me",), ("name", "v"), ("new", "a"), ("get", 1, "x"), ("ask", 1, "go", ()),
    ("ask", ("me",), "go", (1, None, ("me",))), ("up", "go", ()), ("up", "go", (1, 2, 3)), ("plus", 1, 2),
    ("minus", 1, None), ("less", 1, 2), ("alike", None, ("me",)), ("or", 1, ("name", "w")),
)
STATEMENTS = (
    ("let", "v", 1), ("put", ("me",), "x", 1), ("drop", ("me",), "x"), ("tell", 1), ("do", 1), ("give", None),
    ("throw", 7), ("become", ("me",), "b"),
    ("if", 1, (), ()), ("if", 1, (("tell", 1),), (("tell", 2), ("tell", 3))), ("while", 1, ()),
    ("while", 0, (("tell", 1),)), ("repeat", 3, ()), ("repeat", 3, (("tell", 1),)), ("try", (), "v", ()),
    ("try", (("throw", 1),), "v", (("tell", ("name", "v")),)),
    ("turn", "a", "go", "b", "on"), ("strip", "a", "go"), ("elders", "c", ()), ("elders", "c", ("a", "b", "c")),
)
PROGRAM = (
    KINDS,
    (
        ("a", "go", ("p", "q"), (("let", "v", ("plus", ("name", "p"), 1)), ("give", ("name", "v")))),
        ("c", "go", (), (("give", ("up", "go", (1, 2))),)),
        ("a", "end", (), ()),
    ),
    (
        ("let", "t", ("new", "c")),
        ("try", (("tell", ("ask", ("name", "t"), "go", ())),), "e", (("elders", "c", ("a",)),)),
        ("while", ("less", ("name", "t"), 5), (("if", None, (("strip", "a", "go"),), ()),)),
    ),
)


class PlainCheck:
    """The points' words once more, for things made of tuples, texts, numbers and None: it counts as it goes."""

    EXPRESSIONS = {
        "me": "", "name": "x", "new": "k", "get": "en", "ask": "ena", "up": "na",
        "plus": "ee", "minus": "ee", "less": "ee", "alike": "ee", "or": "ee",
    }
    STATEMENTS = {
        "let": "xe", "put": "ene", "drop": "en", "tell": "e", "do": "e", "give": "e", "throw": "e", "become": "ek",
        "if": "ebb", "while": "eb", "repeat": "eb", "try": "bxb", "turn": "knkn", "strip": "kn", "elders": "kl",
    }

    def __init__(self, kinds, params):
        self.kinds = kinds
        self.names = set(params)
        self.many = 0
        self.good = True

    def body(self, block):
        self.block(block, 0)
        return self.good and self.many <= 16 and len(self.names) <= 20

    def parts(self, thing, forms, deep, within):
        if not isinstance(thing, tuple) or not thing or not isinstance(thing[0], str):
            self.good = False
        elif thing[0] not in forms or len(forms[thing[0]]) != len(thing) - 1:
            self.good = False
        else:
            for form, part in zip(forms[thing[0]], thing[1:]):
                self.part(form, part, deep, within)

    def part(self, form, part, deep, within):
        if form == "e":
            self.expression(part, within + 1)
        elif form == "b":
            self.block(part, deep + 1)
        elif form == "a":
            self.good = self.good and isinstance(part, tuple) and len(part) < 4
            for arg in part if self.good else ():
                self.expression(arg, within + 1)
        elif form == "k":
            self.good = self.good and isinstance(part, str) and part in self.kinds
        elif form == "l":
            self.good = self.good and isinstance(part, tuple) and all(
                part.count(kind) == 1 and kind in self.kinds for kind in part)
        else:
            self.good = self.good and plain_is_name(part)
            if form == "x" and self.good:
                self.names.add(part)

    def block(self, thing, deep):
        if not isinstance(thing, tuple) or deep > 2:
            self.good = False
            return
        for statement in thing:
            self.many += 1
            self.parts(statement, self.STATEMENTS, deep, 0)

    def expression(self, thing, within):
        self.good = self.good and within <= 4
        if isinstance(thing, int):
            self.good = self.good and thing in range(10 ** 9)
        elif thing is not None and self.good:
            self.parts(thing, self.EXPRESSIONS, 0, within)


def plain_few_names(thing):
    return isinstance(thing, tuple) and len(thing) < 4 and all(
        plain_is_name(name) and thing.count(name) == 1 for name in thing)


def plain_is_program(thing):
    if not isinstance(thing, tuple) or len(thing) != 3:
        return False
    rows, deeds, run = thing
    if not isinstance(rows, tuple) or any(not isinstance(row, tuple) or len(row) != 3 for row in rows):
        return False
    family = tuple(row[:2] for row in rows)
    if not plain_is_family(family):
        return False
    kinds = [kind for kind, _ in family]
    for at, (kind, elders) in enumerate(family):
        if any(kinds.index(elder) >= at for elder in elders) or order_of(family, kind)[0] == "quarrel":
            return False
    if not all(plain_few_names(row[2]) for row in rows) or not isinstance(deeds, tuple) or len(deeds) > 8:
        return False
    for deed in deeds:
        if not isinstance(deed, tuple) or len(deed) != 4 or deed[0] not in kinds or not plain_is_name(deed[1]):
            return False
        if not plain_few_names(deed[2]) or not PlainCheck(kinds, deed[2]).body(deed[3]):
            return False
    if len({deed[:2] for deed in deeds}) < len(deeds):
        return False
    return PlainCheck(kinds, ()).body(run)


def running(*statements):
    return (KINDS, (), tuple(statements))


def with_deed(params, *statements):
    return (KINDS, (("a", "go", params, tuple(statements)),), ())


class ProgramCase(unittest.TestCase):
    def holds(self, thing, truth):
        with self.subTest(thing=repr(thing)[:400]):
            self.assertIs(is_program(thing), truth)

    def body_holds(self, truth, *statements):
        """The same of a run and of a deed's block."""
        self.holds(running(*statements), truth)
        self.holds(with_deed((), *statements), truth)


class TestPrograms(ProgramCase):
    def test_programs(self):
        self.holds(PROGRAM, True)
        self.holds(((("a", (), ()),), (), ()), True)

    def test_parts_of_a_program(self):
        for wrong in (PROGRAM[:2], PROGRAM[1:], PROGRAM + ((),), list(PROGRAM), (), ((), (), ())):
            self.holds(wrong, False)
        for at in range(3):
            for wrong in (None, 1, "a", list(PROGRAM[at]), {}):
                self.holds(PROGRAM[:at] + (wrong,) + PROGRAM[at + 1:], False)

    def test_kinds(self):
        kinds = tuple((letter, (), ()) for letter in "abcdefgh")
        self.holds((kinds[:1], (), ()), True)
        self.holds((kinds[:7], (), ()), True)
        self.holds((kinds, (), ()), False)
        self.holds(((), (), ()), False)
        self.holds((kinds[:1] + kinds[:1], (), ()), False)
        for wrong in (("a", ()), ("a", (), (), ()), ["a", (), ()], ("A", (), ()), ("abcdefg", (), ()), ("", (), ())):
            self.holds(((wrong,), (), ()), False)
        self.holds(((("abcdef", (), ()),), (), ()), True)

    def test_elders(self):
        self.holds(((("a", (), ()), ("b", ("a",), ())), (), ()), True)
        self.holds(((("b", ("a",), ()), ("a", (), ())), (), ()), False)
        self.holds(((("a", ("a",), ()),), (), ()), False)
        self.holds(((("a", ("b",), ()), ("b", ("a",), ())), (), ()), False)
        self.holds(((("a", (), ()), ("b", ("a", "a"), ())), (), ()), False)
        self.holds(((("a", (), ()), ("b", ("c",), ())), (), ()), False)
        self.holds(((("a", (), ()), ("b", ["a"], ())), (), ()), False)
        six = tuple((letter, (), ()) for letter in "abcdef")
        self.holds((six + (("g", tuple("fbdace"), ()),), (), ()), True)

    def test_families_with_a_quarrel(self):
        rows = tuple((kind, elders, ()) for kind, elders in ELDERS_QUARREL)
        self.holds((rows[:2], (), ()), True)
        self.holds((rows[:3], (), ()), False)
        self.holds((rows, (), ()), False)

    def test_fields(self):
        for fields in ((), ("x",), ("z", "y", "x"), ("a",), ("abcdef",)):
            self.holds(((("a", (), fields),), (), ()), True)
        for fields in (("x", "y", "z", "w"), ("x", "x"), ["x"], "x", None, ("X",), ("",), ("abcdefg",), (1,)):
            self.holds(((("a", (), fields),), (), ()), False)

    def test_deeds(self):
        deeds = tuple(("a", letter, (), ()) for letter in "qponmlkji")
        self.holds((KINDS, (), ()), True)
        self.holds((KINDS, deeds[:8], ()), True)
        self.holds((KINDS, deeds, ()), False)
        self.holds((KINDS, (("a", "go", (), ()), ("b", "go", (), ()), ("a", "on", (), ())), ()), True)
        self.holds((KINDS, (("a", "go", (), ()), ("b", "go", (), ()), ("a", "go", ("p",), ())), ()), False)
        for wrong in (("d", "go", (), ()), ("a", "Go", (), ()), ("a", "", (), ()), ("a", "abcdefg", (), ()),
                      ("a", 1, (), ()), (None, "go", (), ()), ("a", "go", ()), ("a", "go", (), (), ()),
                      ["a", "go", (), ()], ("a", "go", [], ()), ("a", "go", (), []), ("a", "go", None, ()),
                      ("a", "go", (), None)):
            self.holds((KINDS, (wrong,), ()), False)
        self.holds((KINDS, (("a", "abcdef", (), ()),), ()), True)

    def test_params(self):
        for params in ((), ("p",), ("r", "q", "p"), ("me",), ("abcdef",)):
            self.holds(with_deed(params), True)
        for params in (("p", "q", "r", "s"), ("p", "p"), ("P",), ("",), ("abcdefg",), (1,), ["p"], "p", None):
            self.holds(with_deed(params), False)


class TestStatements(ProgramCase):
    def test_each_statement(self):
        for statement in STATEMENTS:
            self.body_holds(True, statement)
        self.body_holds(True, *STATEMENTS[:8])

    def test_a_part_less_or_more(self):
        for statement in STATEMENTS:
            for wrong in (statement[:-1], statement + (1,), statement + ((),), statement[1:], statement[:1],
                          statement[:1] + statement[2:], (statement,), list(statement), ()):
                self.body_holds(False, wrong)

    def test_words(self):
        for word in ("", "Let", "lets", "name", "me", "plus", "kind", "end", None, 0, True, b"let", ("let",)):
            self.body_holds(False, (word, "v", 1))
        for expression in EXPRESSIONS:
            self.body_holds(False, expression)

    def test_names(self):
        for name in ("v", "abcdef", "me", "let", "a"):
            for statement in (("let", name, 1), ("put", 1, name, 1), ("drop", 1, name), ("try", (), name, ()),
                              ("turn", "a", name, "b", "on"), ("turn", "a", "on", "b", name), ("strip", "a", name)):
                self.body_holds(True, statement)
        for name in ("", "abcdefg", "V", "v1", "v ", 1, None, ("v",), ["v"]):
            for statement in (("let", name, 1), ("put", 1, name, 1), ("drop", 1, name), ("try", (), name, ()),
                              ("turn", "a", name, "b", "on"), ("turn", "a", "on", "b", name), ("strip", "a", name)):
                self.body_holds(False, statement)

    def test_kinds(self):
        for kind in "abc":
            for statement in (("become", 1, kind), ("turn", kind, "go", "a", "go"), ("turn", "a", "go", kind, "go"),
                              ("strip", kind, "go"), ("elders", kind, ()), ("elders", "a", (kind,))):
                self.body_holds(True, statement)
        for kind in ("d", "", "A", 0, None, ("a",), ["a"], {}):
            for statement in (("become", 1, kind), ("turn", kind, "go", "a", "go"), ("turn", "a", "go", kind, "go"),
                              ("strip", kind, "go"), ("elders", kind, ()), ("elders", "a", (kind,))):
                self.body_holds(False, statement)

    def test_elders(self):
        for elders in ((), ("a",), ("c",), ("c", "a", "b")):
            self.body_holds(True, ("elders", "c", elders))
        for elders in (("a", "a"), ["a"], "a", None, ("d",), ("a", 1)):
            self.body_holds(False, ("elders", "c", elders))

    def test_blocks(self):
        for wrong in (None, 1, "", [], {}, ("tell", 1), (1,), (None,), ((),), [("tell", 1)]):
            for statement in (("if", 1, wrong, ()), ("if", 1, (), wrong), ("while", 1, wrong), ("repeat", 1, wrong),
                              ("try", wrong, "v", ()), ("try", (), "v", wrong)):
                self.body_holds(False, statement)

    def test_blocks_within_one_another(self):
        for inner in ((), (("tell", 1),)):
            for wrap in (lambda block: ("if", 1, block, ()), lambda block: ("if", 1, (), block),
                         lambda block: ("while", 1, block), lambda block: ("repeat", 1, block),
                         lambda block: ("try", block, "v", ()), lambda block: ("try", (), "v", block)):
                self.body_holds(True, wrap(inner))
                self.body_holds(True, wrap((wrap(inner),)))
                self.body_holds(False, wrap((wrap((wrap(inner),)),)))
        self.body_holds(True, ("while", 1, (("if", 1, (), ()), ("try", (), "v", ()))), ("while", 1, ()))

    def test_sixteen_statements_all_counted(self):
        tell = ("tell", 1)
        self.body_holds(True, *[tell] * 16)
        self.body_holds(False, *[tell] * 17)
        for inner in range(17):
            outer = 15 - inner
            for wrap in (lambda block: ("while", 1, block), lambda block: ("if", 1, block[:4], block[4:]),
                         lambda block: ("try", block[:3], "v", block[3:]), lambda block: ("repeat", 1, block)):
                self.body_holds(inner <= 15, *[tell] * max(outer, 0), wrap((tell,) * inner))
                self.body_holds(False, *[tell] * (max(outer, 0) + 1), wrap((tell,) * inner))
        nest = ("while", 1, (("if", 1, (tell,) * 5, (tell,) * 4), tell))
        self.body_holds(True, nest, *[tell] * 4)
        self.body_holds(False, nest, *[tell] * 5)

    def test_each_body_is_counted_by_itself(self):
        tells = (("tell", 1),) * 16
        self.holds((KINDS, (("a", "go", (), tells), ("b", "go", (), tells)), tells), True)

    def test_twenty_unlike_x(self):
        names = ["v" + letter for letter in "abcdefghijklmnopqrstu"]

        def telling(some):
            return [("do", ("ask", 0, "go", tuple(("name", name) for name in some[at:at + 3])))
                    for at in range(0, len(some), 3)]

        self.body_holds(True, *telling(names[:20]))
        self.body_holds(False, *telling(names))
        self.body_holds(True, *telling(names[:20] + names[:10]))
        for params in range(4):
            own = tuple(names[:params])
            self.holds(with_deed(own, *telling(names[params:20])), True)
            self.holds(with_deed(own, *telling(names[params:])), False)
            self.holds(with_deed(own, *telling(names[:20])), True)
        for statement in (("let", "vu", 1), ("try", (), "vu", ()), ("while", 1, (("let", "vu", 1),)),
                          ("tell", ("plus", 1, ("minus", 2, ("name", "vu")))), ("if", ("name", "vu"), (), ()),
                          ("do", ("up", "go", (("name", "vu"),))), ("try", (), "va", (("let", "vu", 1),))):
            self.body_holds(True, *telling(names[:19]), statement)
            self.body_holds(False, *telling(names[:20]), statement)
        for statement in (("put", ("me",), "vu", 1), ("drop", 1, "vu"), ("do", ("ask", 1, "vu", ())),
                          ("do", ("get", 1, "vu")), ("strip", "a", "vu"), ("turn", "a", "vu", "a", "vu")):
            self.body_holds(True, *telling(names[:20]), statement)


class TestExpressions(ProgramCase):
    def test_each_expression_at_each_place(self):
        for e in EXPRESSIONS:
            for statement in (("let", "v", e), ("put", e, "x", 1), ("put", 1, "x", e), ("drop", e, "x"), ("tell", e),
                              ("do", e), ("give", e), ("throw", e), ("become", e, "a"), ("if", e, (), ()),
                              ("while", e, ()), ("repeat", e, ())):
                self.body_holds(True, statement)
            for outer in (("get", e, "x"), ("ask", e, "go", ()), ("ask", 1, "go", (1, e)), ("up", "go", (e,)),
                          ("plus", e, 1), ("minus", 1, e), ("less", e, e), ("alike", 1, e), ("or", e, 1)):
                self.body_holds(True, ("tell", outer))

    def test_wrong_things_at_each_place(self):
        for e in (-1, 10 ** 9, True, False, "", "v", "none", (), ("none",), [], {}, b"", (1,), ("let", "v", 1),
                  ("tell", 1), ["me"], ("Me",), (None,), (("me",),)):
            for statement in (("let", "v", e), ("put", e, "x", 1), ("put", 1, "x", e), ("drop", e, "x"), ("tell", e),
                              ("do", e), ("give", e), ("throw", e), ("become", e, "a"), ("if", e, (), ()),
                              ("while", e, ()), ("repeat", e, ())):
                self.body_holds(False, statement)
            for outer in (("get", e, "x"), ("ask", e, "go", ()), ("ask", 1, "go", (1, e)), ("up", "go", (e,)),
                          ("plus", e, 1), ("minus", 1, e), ("less", e, e), ("alike", 1, e), ("or", e, 1)):
                self.body_holds(False, ("tell", outer))

    def test_numbers(self):
        for number in (0, 1, 999999999):
            self.body_holds(True, ("tell", number))
        for number in (-1, 1000000000, 10 ** 30, True, False):
            self.body_holds(False, ("tell", number))

    def test_a_part_less_or_more(self):
        for e in EXPRESSIONS[3:]:
            for wrong in (e[:-1], e + (1,), e + ((),), e + ("a",), e[1:], list(e), e[:1] + e[2:] if e[1:] else ()):
                self.body_holds(False, ("tell", wrong))

    def test_names_and_kinds(self):
        for name in ("", "abcdefg", "V", "v1", 1, None, ("v",), ["v"]):
            for e in (("name", name), ("get", 1, name), ("ask", 1, name, ()), ("up", name, ()), ("new", name)):
                self.body_holds(False, ("tell", e))
        self.body_holds(False, ("tell", ("new", "d")))
        self.body_holds(True, ("tell", ("name", "abcdef")))

    def test_args(self):
        for args in ((), (1,), (1, 2, 3)):
            self.body_holds(True, ("tell", ("ask", 1, "go", args)))
            self.body_holds(True, ("tell", ("up", "go", args)))
        for args in ((1, 2, 3, 4), [1], None, 1, "", ("me",), ("name", "v")):
            self.body_holds(False, ("tell", ("ask", 1, "go", args)))
            self.body_holds(False, ("tell", ("up", "go", args)))

    def test_four_within_one_another(self):
        wraps = (
            lambda e: ("plus", e, 1), lambda e: ("minus", 1, e), lambda e: ("less", e, 1), lambda e: ("alike", 1, e),
            lambda e: ("or", e, 1), lambda e: ("get", e, "x"), lambda e: ("ask", e, "go", ()),
            lambda e: ("ask", 1, "go", (1, 1, e)), lambda e: ("up", "go", (e,)),
        )
        for wrap in wraps:
            for leaf in (1, None, ("me",), ("name", "v"), ("new", "a"), ("up", "go", ())):
                e = leaf
                for many in range(1, 7):
                    self.body_holds(many <= 4, ("tell", e))
                    self.body_holds(many <= 4, ("while", 1, (("if", e, (), ()),)))
                    e = wrap(e)


class TestAnyKind(ProgramCase):
    def test_things_of_any_kind(self):
        for thing in ANY:
            self.holds(thing, False)
        for thing in alien_at_each_place(PROGRAM):
            self.holds(thing, False)

    def test_homely_things_at_each_place(self):
        many = 0
        for thing in homely_at_each_place(PROGRAM):
            many += plain_is_program(thing)
            self.holds(thing, plain_is_program(thing))
        self.assertGreater(many, 200)

    def test_statements_and_expressions_at_each_place(self):
        for place in places(PROGRAM):
            for part in EXPRESSIONS + STATEMENTS + ((STATEMENTS[0],),):
                thing = with_part(PROGRAM, place, part)
                self.holds(thing, plain_is_program(thing))

    def test_any_place_twice(self):
        for place in places(PROGRAM):
            part = part_at(PROGRAM, place)
            for thing in (with_part(PROGRAM, place, (part,)), with_part(PROGRAM, place, (part, part))):
                self.holds(thing, plain_is_program(thing))


class TestTableOf(ProgramCase):
    def test_table(self):
        self.assertEqual(table_of(PROGRAM), (
            ("a", (), ("a",), ("x", "y"), (("end", 3), ("go", 1)), 0),
            ("b", ("a",), ("b", "a"), (), (), 0),
            ("c", ("b", "a"), ("c", "b", "a"), ("z",), (("go", 2),), 0),
        ))
        self.assertTrue(is_table(table_of(PROGRAM)))

    def test_many_deeds(self):
        deeds = tuple((kind, name, (), ()) for name in ("z", "b", "ab", "m") for kind in "ca")
        table = table_of((KINDS, deeds, ()))
        self.assertEqual(table[0][4], (("ab", 6), ("b", 4), ("m", 8), ("z", 2)))
        self.assertEqual(table[1][4], ())
        self.assertEqual(table[2][4], (("ab", 5), ("b", 3), ("m", 7), ("z", 1)))
        self.assertTrue(is_table(table))

    def test_lone_kind(self):
        self.assertEqual(table_of(((("a", (), ()),), (), ())), (("a", (), ("a",), (), (), 0),))

    def test_several_elders(self):
        kinds = (("top", (), ()), ("left", ("top",), ()), ("right", ("top",), ()), ("low", ("left", "right"), ("x",)))
        table = table_of((kinds, (), (("tell", 1),)))
        self.assertEqual(table[3], ("low", ("left", "right"), ("low", "left", "right", "top"), ("x",), (), 0))
