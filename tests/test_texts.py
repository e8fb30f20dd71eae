import random
import unittest

from makers import some_programs
from plain_texts import plain_read, plain_row
from test_errors import REFUSALS
from test_programs import EXPRESSIONS, KINDS, PROGRAM, STATEMENTS
from things import ELDERS_QUARREL, SameAsAll, TWO_QUARREL
from warmrows.errors import NoText, RowError
from warmrows.programs import is_program
from warmrows.texts import read_program, show_program

WORDS = ("kind", "deed", "run", "end", "else", "catch", "none", "me", "if", "plus", "name", "let", "while", "try",
         "elders", "ask", "up", "throw", "new", "or", "get", "put", "drop")

TEXT = """kind a 0 x y
kind b 1 a
kind c 2 b a z
deed a go p q
let v plus name p 1
give name v
end
deed c go
give up go 2 1 2
end
deed a end
end
run
let t new c
try
tell ask name t go 0
catch e
elders c a
end
while less name t 5
if none
strip a go
else
end
end
end"""

# Each opens a block of another sort, and its rows behind the block.
NESTS = (("if 1", "else\nend"), ("if 1\nelse", "end"), ("while 1", "end"), ("repeat 1", "end"),
         ("try", "catch v\nend"), ("try\ncatch v", "end"))


def one_body(*rows):
    """A text whose RUN has these rows."""
    return "\n".join(("kind a 0 x y", "kind b 1 a", "kind c 2 b a z", "run") + rows + ("end",))


class TextCase(unittest.TestCase):
    def row_of(self, text):
        """The row at which a text is refused."""
        with self.assertRaises(NoText) as caught:
            read_program(text)
        self.assertNotIsInstance(caught.exception.row, bool)
        return caught.exception.row

    def refused(self, row, text):
        self.assertEqual(self.row_of(text), row, text)

    def goes_both_ways(self, program):
        text = show_program(program)
        self.assertEqual(read_program(text), program)
        self.assertTrue(is_program(read_program(text)))
        self.assertEqual(show_program(read_program(text)), text)

    def is_as_told_plainly(self, text):
        """Whether it is read; and it is read or refused as the plain reader has it."""
        row = plain_row(text)
        if row is not None:
            self.refused(row, text)
            return False
        self.assertEqual(read_program(text), plain_read(text))
        self.assertEqual(show_program(read_program(text)), text)
        return True

    def body_row(self, row, *rows):
        """The row, from 0 behind run, at which a RUN is refused; None where it is read."""
        text = one_body(*rows)
        if row is None:
            self.assertEqual(show_program(read_program(text)), text)
        else:
            self.refused(4 + row, text)


class TestWriting(TextCase):
    def shows(self, statement, *rows):
        program = (KINDS, (), (statement,))
        self.assertEqual(show_program(program), one_body(*rows))
        self.goes_both_ways(program)

    def test_a_program(self):
        self.assertEqual(show_program(PROGRAM), TEXT)
        self.assertEqual(read_program(TEXT), PROGRAM)

    def test_the_least_program(self):
        self.assertEqual(show_program(((("a", (), ()),), (), ())), "kind a 0\nrun\nend")
        self.assertEqual(read_program("kind a 0\nrun\nend"), ((("a", (), ()),), (), ()))

    def test_each_statement(self):
        self.shows(("let", "v", 1), "let v 1")
        self.shows(("put", ("me",), "x", 1), "put me x 1")
        self.shows(("drop", ("name", "v"), "x"), "drop name v x")
        self.shows(("tell", 0), "tell 0")
        self.shows(("do", None), "do none")
        self.shows(("give", None), "give none")
        self.shows(("throw", 999999999), "throw 999999999")
        self.shows(("become", ("new", "a"), "b"), "become new a b")
        self.shows(("turn", "a", "go", "b", "on"), "turn a go b on")
        self.shows(("strip", "a", "go"), "strip a go")
        self.shows(("elders", "c", ()), "elders c")
        self.shows(("elders", "c", ("a",)), "elders c a")
        self.shows(("elders", "a", ("c", "a", "b")), "elders a c a b")

    def test_each_statement_with_blocks(self):
        tell, do = ("tell", 1), ("do", 2)
        self.shows(("if", 1, (), ()), "if 1", "else", "end")
        self.shows(("if", 1, (tell,), (do, do)), "if 1", "tell 1", "else", "do 2", "do 2", "end")
        self.shows(("if", 1, (), (do,)), "if 1", "else", "do 2", "end")
        self.shows(("while", ("less", 1, 2), ()), "while less 1 2", "end")
        self.shows(("while", 1, (tell, do)), "while 1", "tell 1", "do 2", "end")
        self.shows(("repeat", 3, ()), "repeat 3", "end")
        self.shows(("repeat", None, (tell,)), "repeat none", "tell 1", "end")
        self.shows(("try", (), "v", ()), "try", "catch v", "end")
        self.shows(("try", (tell,), "v", (do,)), "try", "tell 1", "catch v", "do 2", "end")

    def test_blocks_two_deep(self):
        self.shows(("if", 1, (("while", 2, (("tell", 3),)),), (("try", (), "v", (("do", 4),)),)),
                   "if 1", "while 2", "tell 3", "end", "else", "try", "catch v", "do 4", "end", "end")
        self.shows(("try", (("repeat", 1, ()),), "catch", (("if", 2, (), ()),)),
                   "try", "repeat 1", "end", "catch catch", "if 2", "else", "end", "end")

    def test_each_expression(self):
        for expression, words in (
                (0, "0"), (10, "10"), (999999999, "999999999"), (None, "none"), (("me",), "me"),
                (("name", "v"), "name v"), (("new", "a"), "new a"), (("get", ("me",), "x"), "get me x"),
                (("ask", ("me",), "go", ()), "ask me go 0"), (("ask", None, "go", (1,)), "ask none go 1 1"),
                (("ask", 1, "go", (("me",), None, 0)), "ask 1 go 3 me none 0"), (("up", "go", ()), "up go 0"),
                (("up", "go", (1, ("name", "v"))), "up go 2 1 name v"), (("plus", 1, 2), "plus 1 2"),
                (("minus", 1, None), "minus 1 none"), (("less", 1, 2), "less 1 2"), (("alike", 1, 2), "alike 1 2"),
                (("or", 1, ("or", 2, 3)), "or 1 or 2 3"), (("or", ("or", 1, 2), 3), "or or 1 2 3"),
                (("get", ("ask", ("get", ("me",), "x"), "go", (1, 2)), "y"), "get ask get me x go 2 1 2 y")):
            self.shows(("tell", expression), "tell " + words)
            self.shows(("put", expression, "x", expression), f"put {words} x {words}")
            self.shows(("while", expression, ()), "while " + words, "end")

    def test_kinds(self):
        kinds = tuple((letter, (), ()) for letter in "abcdef")
        for many in range(7):
            elders = ("f", "b", "d", "a", "c", "e")[:many]
            for fields in ((), ("x",), ("y", "x"), ("a", "c", "b")):
                program = (kinds + (("g", elders, fields),), (), ())
                words = ("kind", "g", str(many)) + elders + fields
                self.assertEqual(show_program(program).split("\n")[6], " ".join(words))
                self.goes_both_ways(program)

    def test_deeds(self):
        for params in ((), ("p",), ("q", "p"), ("end", "me", "run")):
            program = (KINDS, (("b", "go", params, (("tell", 1),)), ("a", "go", (), ())), ())
            rows = show_program(program).split("\n")
            self.assertEqual(rows[3:], [" ".join(("deed", "b", "go") + params), "tell 1", "end", "deed a go", "end",
                                        "run", "end"])
            self.goes_both_ways(program)

    def test_names_that_are_words(self):
        for word in WORDS:
            for other in WORDS:
                kinds = ((word, (), (other, "x")), ("z", (word,), (word,)))
                block = (
                    ("let", word, ("name", other)), ("put", ("name", word), other, ("new", word)),
                    ("drop", ("get", ("me",), word), other), ("become", ("name", other), word),
                    ("tell", ("ask", ("name", word), other, (("up", word, (None,)),))),
                    ("try", (("strip", word, other),), word, (("elders", "z", (word,)),)),
                    ("turn", word, other, word, word), ("elders", word, (word, "z")), ("elders", word, ()),
                )
                program = (kinds, ((word, other, (word,), block), ("z", other, (), ())), block)
                self.goes_both_ways(program)


class TestReading(TextCase):
    def test_statements_and_expressions_of_each_form(self):
        for statement in STATEMENTS:
            self.goes_both_ways((KINDS, (), (statement,)))
        for expression in EXPRESSIONS:
            for outer in (expression, ("plus", expression, expression), ("ask", expression, "go", (1, expression))):
                self.goes_both_ways((KINDS, (), (("tell", outer), ("put", outer, "x", outer))))

    def test_each_part_is_of_its_kind(self):
        program = read_program(TEXT)
        self.assertIsInstance(program[2][2][1][2], int)
        self.assertIsNone(program[2][2][2][0][1])
        self.assertEqual(repr(program), repr(PROGRAM))

    def test_programs_in_plenty(self):
        for program in some_programs("texts", 300):
            self.goes_both_ways(program)
            self.assertEqual(plain_read(show_program(program)), program)

    def test_what_is_no_text(self):
        for thing in (None, True, False, 0, 1, -1, (), ("kind a 0", "run", "end"), [], ["kind a 0"], {}, {"kind": 1},
                      b"kind a 0\nrun\nend", set(), object(), SameAsAll(), str):
            self.refused(0, thing)
        self.refused(0, "")


class TestRefusals(TextCase):
    def test_by_its_own_class(self):
        for text in ("", None, TEXT + "\n", TEXT[:40]):
            for taken in (NoText, RowError, ValueError):
                with self.assertRaises(taken):
                    read_program(text)
            try:
                read_program(text)
            except RowError as error:
                self.assertEqual([one for one in REFUSALS if isinstance(error, one)], [NoText])

    def test_cut_off_behind_each_row(self):
        for program in [PROGRAM] + list(some_programs("cut off", 30)):
            rows = show_program(program).split("\n")
            for many in range(1, len(rows)):
                self.refused(many, "\n".join(rows[:many]))

    def test_a_row_more_behind_the_whole(self):
        for row in ("", " ", "end", "run", "tell 1", "kind d 0", "deed b on", "else", "catch v", "kind a 0"):
            self.refused(26, TEXT + "\n" + row)
            self.refused(3, "kind a 0\nrun\nend\n" + row + "\nend")

    def test_line_ends(self):
        self.refused(26, TEXT + "\n")
        self.refused(26, TEXT + "\n\n")
        self.refused(0, "\n" + TEXT)
        self.refused(0, "\n")
        for at in range(1, 26):
            rows = TEXT.split("\n")
            self.refused(at, "\n".join(rows[:at] + [""] + rows[at:]))

    def test_blanks(self):
        rows = TEXT.split("\n")
        for at, row in enumerate(rows):
            for wrong in [" " + row, row + " ", "  " + row] + [
                    row[:place] + " " + row[place:] for place in range(len(row)) if row[place] == " "]:
                self.refused(at, "\n".join(rows[:at] + [wrong] + rows[at + 1:]))
        self.refused(0, " ")

    def test_other_signs_between_words(self):
        rows = TEXT.split("\n")
        for at, row in enumerate(rows):
            if " " in row:
                for sign in ("_", ",", ".", "-", ""):
                    self.refused(at, "\n".join(rows[:at] + [row.replace(" ", sign)] + rows[at + 1:]))

    def test_rows_left_out_doubled_exchanged_and_put_in(self):
        read = 0
        for program in [PROGRAM] + list(some_programs("rows", 2)):
            rows = show_program(program).split("\n")
            for at in range(len(rows)):
                read += self.is_as_told_plainly("\n".join(rows[:at] + rows[at + 1:]))
                read += self.is_as_told_plainly("\n".join(rows[:at] + rows[at:at + 1] + rows[at:]))
                for other in (at + 1, at + 2, at + 5):
                    if other < len(rows):
                        changed = list(rows)
                        changed[at], changed[other] = rows[other], rows[at]
                        read += self.is_as_told_plainly("\n".join(changed))
                for row in ("end", "else", "catch v", "run", "try", "if 1", "while none", "tell 1", "deed a on",
                            "deed b on p", "kind h 0", "kind a 0", "none", "me", "1", "throw"):
                    read += self.is_as_told_plainly("\n".join(rows[:at] + [row] + rows[at:]))
        self.assertGreater(read, 50)

    def test_words_put_in_left_out_and_exchanged(self):
        read = 0
        source = random.Random("words")
        for program in [PROGRAM] + list(some_programs("words", 1)):
            rows = [row.split(" ") for row in show_program(program).split("\n")]
            for at, row in enumerate(rows):
                for place in range(len(row) + 1):
                    others = [row[:place] + row[place + 1:], row[:place] + row[place:place + 1] + row[place:],
                              row[:place] + row[place:][::-1]]
                    for word in ("a", "1", "0", "none", source.choice(WORDS), source.choice(source.choice(rows))):
                        others += [row[:place] + [word] + row[place:], row[:place] + [word] + row[place + 1:]]
                    for other in others:
                        changed = rows[:at] + [other] + rows[at + 1:]
                        read += self.is_as_told_plainly("\n".join(map(" ".join, changed)))
        self.assertGreater(read, 100)

    def test_numbers(self):
        for word in ("0", "1", "9", "10", "100000000", "999999999"):
            self.body_row(None, "tell " + word)
            self.body_row(None, "put me x plus 1 " + word)
        for word in ("00", "01", "0999999999", "000", "1000000000", "9999999999", "1" + "0" * 20, "1" * 6000,
                     "-1", "+1", "-0", "1.0", "1_0", "0x1", "1a", "", "True", "None"):
            self.body_row(0, "tell " + word)
            self.body_row(0, "put me x plus 1 " + word)
            self.body_row(1, "do 1", "while " + word, "end")
            self.body_row(0, "tell up go " + word + " 1")
            self.refused(1, "kind a 0\nkind b " + word + " a\nrun\nend")

    def test_names(self):
        for name in ("v", "abcdef", "zzzzzz"):
            self.body_row(None, "let " + name + " 1")
        for name in ("abcdefg", "V", "vA", "v1", "v_", "1", "", "v-", "~", "!"):
            for row in ("let N 1", "put me N 1", "drop me N", "tell name N", "tell get me N", "tell ask me N 0",
                        "tell up N 0", "turn a N b on", "turn a on b N", "strip a N"):
                self.body_row(0, row.replace("N", name))
            self.body_row(1, "try", "catch " + name, "end")
            self.refused(0, "kind " + name + " 0\nrun\nend")
            self.refused(0, "kind a 0 " + name + "\nrun\nend")
            self.refused(1, "kind a 0\ndeed a " + name + "\nend\nrun\nend")
            self.refused(1, "kind a 0\ndeed a go " + name + "\nend\nrun\nend")

    def test_rows_begin_as_their_place_asks(self):
        self.refused(0, "run\nend")
        self.refused(0, "deed a go\nend\nrun\nend")
        self.refused(1, "kind a 0\nend")
        self.refused(1, "kind a 0\ntell 1\nend")
        self.refused(3, "kind a 0\ndeed a go\nend\nkind b 0\nrun\nend")
        self.refused(3, "kind a 0\ndeed a go\nend\nend")
        self.refused(2, "kind a 0\nrun\nkind b 0\nend")
        self.refused(2, "kind a 0\nrun\ndeed a go\nend")
        self.refused(2, "kind a 0\nrun\nrun\nend")
        self.refused(1, "kind a 0\nrun a\nend")
        self.refused(2, "kind a 0\nrun\nend end")
        self.body_row(0, "else")
        self.body_row(0, "catch v")
        self.body_row(1, "if 1", "end")
        self.body_row(1, "if 1", "catch v", "end")
        self.body_row(1, "try", "else", "end")
        self.body_row(1, "try", "end")
        self.body_row(1, "try", "catch", "end")
        self.body_row(1, "while 1", "else", "end")
        self.body_row(1, "repeat 1", "catch v", "end")
        self.body_row(2, "if 1", "else", "else", "end")
        self.body_row(2, "try", "catch v", "catch v", "end")
        self.body_row(1, "if 1", "else 1", "end")
        self.body_row(0, "try v", "catch v", "end")


class TestBounds(TextCase):
    def test_kinds(self):
        kinds = ["kind " + letter + " 0" for letter in "abcdefgh"]
        for many in range(1, 8):
            self.assertTrue(read_program("\n".join(kinds[:many] + ["run", "end"])))
        self.refused(7, "\n".join(kinds + ["run", "end"]))
        self.refused(7, "\n".join(kinds))
        self.refused(2, "kind a 0\nkind b 0\nkind a 0\nrun\nend")
        self.refused(1, "kind a 0\nkind a 1 a\nrun\nend")

    def test_elders(self):
        self.refused(0, "kind b 1 a\nkind a 0\nrun\nend")
        self.refused(0, "kind a 1 a\nrun\nend")
        self.refused(1, "kind a 0\nkind b 1 c\nkind c 0\nrun\nend")
        self.refused(1, "kind a 0\nkind b 2 a a\nrun\nend")
        self.refused(1, "kind a 0\nkind b 2 a\nrun\nend")
        self.refused(1, "kind a 0\nkind b 999999999 a\nrun\nend")
        self.assertEqual(read_program("kind a 0\nkind b 1 a a\nrun\nend")[0][1], ("b", ("a",), ("a",)))
        self.assertEqual(read_program("kind a 0\nkind b 0 a\nrun\nend")[0][1], ("b", (), ("a",)))

    def test_quarrels(self):
        for family, row in ((ELDERS_QUARREL, 2), (TWO_QUARREL, 4)):
            rows = [" ".join(("kind", kind, str(len(elders))) + elders) for kind, elders in family]
            self.refused(row, "\n".join(rows + ["run", "end"]))
            self.assertTrue(read_program("\n".join(rows[:row] + ["run", "end"])))

    def test_fields(self):
        for fields in ("", " x", " x y", " z y x"):
            self.assertTrue(read_program("kind a 0" + fields + "\nrun\nend"))
        for fields in (" x y z w", " x x", " x y x"):
            self.refused(0, "kind a 0" + fields + "\nrun\nend")

    def test_deeds(self):
        rows = ["kind a 0", "kind b 0"]
        for many, letter in enumerate("qponmlkji"):
            rows += ["deed a " + letter, "end"]
            if many < 8:
                self.assertTrue(read_program("\n".join(rows + ["run", "end"])))
        self.refused(18, "\n".join(rows + ["run", "end"]))
        self.assertTrue(read_program("kind a 0\nkind b 0\ndeed a go\nend\ndeed b go\nend\nrun\nend"))
        self.refused(5, "kind a 0\ndeed a go\nend\ndeed a on\nend\ndeed a go p\nend\nrun\nend")
        self.refused(1, "kind a 0\ndeed b go\nend\nrun\nend")
        self.refused(1, "kind a 0\ndeed a\nend\nrun\nend")

    def test_params(self):
        for params in ("", " p", " q p", " r q p"):
            self.assertTrue(read_program("kind a 0\ndeed a go" + params + "\nend\nrun\nend"))
        for params in (" p q r s", " p p", " p q p"):
            self.refused(1, "kind a 0\ndeed a go" + params + "\nend\nrun\nend")

    def test_statements(self):
        self.body_row(None, *["tell 1"] * 16)
        self.body_row(16, *["tell 1"] * 17)
        for first, last in NESTS:
            first, last = first.split("\n"), last.split("\n")
            for inner in (0, 1, 7, 15):
                rows = first + ["tell 1"] * inner + last + ["tell 1"] * (15 - inner)
                self.body_row(None, *rows)
                self.body_row(len(rows), *rows, "tell 1")
                self.body_row(len(rows), *rows, "try", "catch v", "end")
            self.body_row(len(first) + 15, *first, *["tell 1"] * 16, *last)
        # Each body is counted by itself.
        tells = "tell 1\n" * 16
        self.assertTrue(read_program("kind a 0\ndeed a go\n" + tells + "end\ndeed a on\n" + tells + "end\nrun\nend"))
        self.refused(18, "kind a 0\ndeed a go\n" + tells + "tell 1\nend\nrun\nend")

    def test_blocks(self):
        for first, last in NESTS:
            first, last = first.split("\n"), last.split("\n")
            for other, end in NESTS:
                other, end = other.split("\n"), end.split("\n")
                self.body_row(None, *first, *other, *end, *last)
                self.body_row(None, *first, *other, "tell 1", *end, *other, *end, *last)
                for third, close in NESTS:
                    third, close = third.split("\n"), close.split("\n")
                    self.body_row(len(first + other), *first, *other, *third, *close, *end, *last)
                    self.body_row(None, *first, *other, *end, *last, *third, *close)

    def test_names(self):
        names = ["v" + letter for letter in "abcdefghijklmnopqrstu"]

        def telling(some):
            rows = []
            for at in range(0, len(some), 3):
                args = ["name " + name for name in some[at:at + 3]]
                rows.append(" ".join(["do ask 0 go", str(len(args))] + args))
            return rows

        for rows in (["let vu 1"], ["try", "catch vu", "end"], ["try", "let vu 1", "catch va", "end"],
                     ["tell plus 1 minus 2 name vu"], ["while name vu", "end"], ["do up go 2 1 name vu"],
                     ["try", "catch va", "let vu 1", "end"], ["if 1", "else", "let vu 1", "end"]):
            at = [number for number, row in enumerate(rows) if "vu" in row][0]
            self.body_row(None, *telling(names[:19]), *rows)
            self.body_row(7 + at, *telling(names[:20]), *rows)
        self.body_row(None, *telling(names[:20]), *telling(names[:20])[::-1], "try", "catch va", "end")
        for row in ("put me vu 1", "drop me vu", "do ask 1 vu 0", "do get 1 vu", "strip a vu", "turn a vu a vu"):
            self.body_row(None, *telling(names[:20]), row)
        for params in range(4):
            first = ["kind a 0", "deed a go" + "".join(" " + name for name in names[:params])]
            self.assertTrue(read_program("\n".join(first + telling(names[params:20]) + ["end", "run", "end"])))
            rows = telling(names[params:20]) + ["let vu 1"]
            self.refused(1 + len(rows), "\n".join(first + rows + ["end", "run", "end"]))

    def test_a_try_with_all_names_used_can_still_be_caught(self):
        names = ["v" + letter for letter in "abcdefghijklmnopqrst"]
        rows = ["do ask 0 go 3 " + " ".join("name " + name for name in names[at:at + 3]) for at in range(0, 18, 3)]
        rows += ["let vs name vt", "try"]
        self.refused(4 + len(rows), one_body(*rows).rsplit("\n", 1)[0])
        self.body_row(None, *rows, "catch vt", "end")
        self.body_row(len(rows), *rows, "catch vu", "end")

    def test_expressions_within_one_another(self):
        for wrap in ("plus E 1", "minus 1 E", "less E 1", "alike 1 E", "or E 1", "or 1 E", "get E x", "ask E go 0",
                     "ask 1 go 3 1 1 E", "up go 1 E"):
            for leaf in ("1", "none", "me", "name v", "new a", "up go 0"):
                words = leaf
                for many in range(1, 7):
                    for row in ("tell E", "put 1 x E", "put E x 1", "become E a"):
                        self.body_row(None if many <= 4 else 0, row.replace("E", words))
                    self.body_row(None if many <= 4 else 1, "if 1", "while " + words, "end", "else", "end")
                    words = wrap.replace("E", words)
        self.body_row(0, "tell " + "or 1 " * 5000 + "1")

    def test_args(self):
        for words in ("0", "1 1", "2 1 2", "3 1 2 3"):
            self.body_row(None, "tell ask 1 go " + words)
            self.body_row(None, "tell up go " + words)
        for words in ("4 1 2 3 4", "1", "1 1 2", "3 1 2", "0 1", "none", "999999999 1", "", "03 1 2 3"):
            self.body_row(0, "tell ask 1 go " + words)
            self.body_row(0, "tell up go " + words)

    def test_kinds_that_are_not_there(self):
        for row in ("become me K", "tell new K", "turn K go a go", "turn a go K go", "strip K go", "elders K",
                    "elders a K", "elders a b K"):
            self.body_row(None, row.replace("K", "c"))
            for kind in ("d", "x", "A", "", "1", "none"):
                self.body_row(0, row.replace("K", kind))
        self.body_row(0, "elders a b b")
        self.body_row(0, "elders a b c b")
        self.body_row(0, "elders")


class TestAnyText(TextCase):
    def test_any_words_in_any_rows(self):
        source = random.Random("any")
        for _ in range(300):
            rows = ["kind a 0", "kind b 1 a", "run"] * source.randint(0, 1)
            for _ in range(source.randint(0, 6)):
                words = source.choices(("kind", "run", "end", "try", "tell", "a", "b", "0", "1", "plus", "none"),
                                       k=source.choice((1, 1, 2, 2, 3)))
                rows.append(" ".join(words))
            self.is_as_told_plainly("\n".join(rows))
