import unittest

from makers import some_programs
from test_programs import EXPRESSIONS, PROGRAM, STATEMENTS
from test_trees import KINDS, deeds, program
from warmrows.programs import table_of
from warmrows.rows import book_of
from warmrows.texts import read_program

HEAD, TAIL = (("mark", 0),), (("push", None), ("give",))


class RowCase(unittest.TestCase):
    def body(self, rows, heads=KINDS, number=0):
        one = program(rows, heads)
        table, bodies = book_of(one)
        self.assertEqual(table, table_of(one))
        return bodies[number]

    def lays(self, text, *rows, catches=(), names=1):
        """The rows of a RUN, between those that each body has."""
        body = self.body(text)
        self.assertEqual(body[0], HEAD + rows + TAIL, text)
        self.assertEqual(body[1:], (catches, 0, names), text)

    def expression(self, text, *rows, names=1):
        self.lays("tell " + text, ("mark", 1), *rows, ("tell",), names=names)


class TestExpressions(RowCase):
    def test_each_form(self):
        self.expression("0", ("push", 0))
        self.expression("999999999", ("push", 999999999))
        self.expression("none", ("push", None))
        self.expression("me", ("name", 0))
        self.expression("name v", ("name", 1), names=2)
        self.expression("new a", ("new", "a"))
        self.expression("get me x", ("name", 0), ("get", "x"))
        self.expression("plus 1 2", ("push", 1), ("push", 2), ("plus",))
        self.expression("minus 1 none", ("push", 1), ("push", None), ("minus",))
        self.expression("less 1 me", ("push", 1), ("name", 0), ("less",))
        self.expression("alike new a 2", ("new", "a"), ("push", 2), ("alike",))
        self.expression("or 1 2", ("push", 1), ("keep", 5), ("push", 2))
        self.expression("ask 1 go 0", ("push", 1), ("ask", "go", 0))
        self.expression("ask me go 3 1 none 3", ("name", 0), ("push", 1), ("push", None), ("push", 3), ("ask", "go", 3))
        self.expression("up go 0", ("name", 0), ("up", "go", 0))
        self.expression("up go 2 7 8", ("name", 0), ("push", 7), ("push", 8), ("up", "go", 2))

    def test_within_one_another(self):
        self.expression("plus minus 1 2 less 3 4", ("push", 1), ("push", 2), ("minus",), ("push", 3), ("push", 4),
                        ("less",), ("plus",))
        self.expression("or or 1 2 3", ("push", 1), ("keep", 5), ("push", 2), ("keep", 7), ("push", 3))
        self.expression("or 1 or 2 3", ("push", 1), ("keep", 7), ("push", 2), ("keep", 7), ("push", 3))
        self.expression("plus or 1 2 or 3 4", ("push", 1), ("keep", 5), ("push", 2), ("push", 3), ("keep", 8),
                        ("push", 4), ("plus",))
        self.expression("ask up go 1 me on 1 or 0 get 1 x", ("name", 0), ("name", 0), ("up", "go", 1), ("push", 0),
                        ("keep", 9), ("push", 1), ("get", "x"), ("ask", "on", 1))


class TestStatements(RowCase):
    def test_each_form(self):
        self.lays("let v 1", ("mark", 1), ("push", 1), ("set", 1), names=2)
        self.lays("put me x 1", ("mark", 1), ("name", 0), ("push", 1), ("put", "x"))
        self.lays("drop me x", ("mark", 1), ("name", 0), ("drop", "x"))
        self.lays("tell 1", ("mark", 1), ("push", 1), ("tell",))
        self.lays("do 1", ("mark", 1), ("push", 1), ("pop",))
        self.lays("give 1", ("mark", 1), ("push", 1), ("give",))
        self.lays("throw none", ("mark", 1), ("push", None), ("throw",))
        self.lays("become me b", ("mark", 1), ("name", 0), ("become", "b"))
        self.lays("turn a go b on", ("mark", 1), ("turn", "a", "go", "b", "on"))
        self.lays("strip a go", ("mark", 1), ("strip", "a", "go"))
        self.lays("elders c", ("mark", 1), ("elders", "c", ()))
        self.lays("elders c a", ("mark", 1), ("elders", "c", ("a",)))
        self.lays("elders c d a b", ("mark", 1), ("elders", "c", ("d", "a", "b")))

    def test_several(self):
        self.lays("tell 1\ndo 2\nstrip a go", ("mark", 1), ("push", 1), ("tell",), ("mark", 2), ("push", 2), ("pop",),
                  ("mark", 3), ("strip", "a", "go"))
        self.lays("")

    def test_if(self):
        self.lays("if 1\ntell 2\nelse\ntell 3\nend\ntell 4",
                  ("mark", 1), ("push", 1), ("unless", 8),
                  ("mark", 2), ("push", 2), ("tell",), ("go", 11),
                  ("mark", 3), ("push", 3), ("tell",),
                  ("mark", 4), ("push", 4), ("tell",))
        self.lays("if 1\nelse\nend", ("mark", 1), ("push", 1), ("unless", 5), ("go", 5))
        self.lays("if 1\nelse\ntell 3\nend", ("mark", 1), ("push", 1), ("unless", 5), ("go", 8),
                  ("mark", 2), ("push", 3), ("tell",))
        self.lays("if 1\ntell 3\nelse\nend", ("mark", 1), ("push", 1), ("unless", 8), ("mark", 2), ("push", 3),
                  ("tell",), ("go", 8))

    def test_while(self):
        self.lays("tell 0\nwhile less 1 2\ntell 3\nend",
                  ("mark", 1), ("push", 0), ("tell",),
                  ("mark", 2), ("push", 1), ("push", 2), ("less",), ("unless", 13),
                  ("mark", 3), ("push", 3), ("tell",), ("go", 4))
        self.lays("while 1\nend", ("mark", 1), ("push", 1), ("unless", 5), ("go", 1))

    def test_repeat(self):
        self.lays("tell 0\nrepeat 2\ntell 3\nend",
                  ("mark", 1), ("push", 0), ("tell",),
                  ("mark", 2), ("push", 2), ("go", 8),
                  ("mark", 2), ("round", 13),
                  ("mark", 3), ("push", 3), ("tell",), ("go", 7))
        self.lays("repeat or 1 2\nend", ("mark", 1), ("push", 1), ("keep", 5), ("push", 2), ("go", 7), ("mark", 1),
                  ("round", 9), ("go", 6))

    def test_try(self):
        self.lays("try\ntell 1\ncatch v\ntell 2\nend",
                  ("mark", 1), ("mark", 2), ("push", 1), ("tell",), ("go", 10),
                  ("set", 1), ("mark", 3), ("push", 2), ("tell",), catches=((2, 5, 6, 0),), names=2)
        self.lays("try\ncatch v\nend", ("mark", 1), ("go", 4), ("set", 1), catches=((2, 2, 3, 0),), names=2)
        self.lays("try\ncatch v\ntell 1\nend\ntell 2", ("mark", 1), ("go", 7), ("set", 1), ("mark", 2), ("push", 1),
                  ("tell",), ("mark", 3), ("push", 2), ("tell",), catches=((2, 2, 3, 0),), names=2)


class TestWithinOneAnother(RowCase):
    def test_if_in_while(self):
        self.lays("while 1\nif 2\ntell 3\nelse\nend\nend\ntell 4",
                  ("mark", 1), ("push", 1), ("unless", 12),
                  ("mark", 2), ("push", 2), ("unless", 11), ("mark", 3), ("push", 3), ("tell",), ("go", 11),
                  ("go", 1),
                  ("mark", 4), ("push", 4), ("tell",))

    def test_while_in_both_blocks_of_if(self):
        self.lays("if 1\nwhile 2\nend\nelse\nwhile 3\nend\nend",
                  ("mark", 1), ("push", 1), ("unless", 9),
                  ("mark", 2), ("push", 2), ("unless", 8), ("go", 4),
                  ("go", 13),
                  ("mark", 3), ("push", 3), ("unless", 13), ("go", 9))

    def test_repeat_in_repeat(self):
        self.lays("repeat 1\nrepeat 2\nend\nend",
                  ("mark", 1), ("push", 1), ("go", 5), ("mark", 1), ("round", 13),
                  ("mark", 2), ("push", 2), ("go", 10), ("mark", 2), ("round", 12), ("go", 9),
                  ("go", 4))

    def test_try_in_try(self):
        self.lays("try\ntry\ntell 1\ncatch v\nend\ncatch w\ntry\ntell 2\ncatch v\nend\nend",
                  ("mark", 1),
                  ("mark", 2), ("mark", 3), ("push", 1), ("tell",), ("go", 8), ("set", 1),
                  ("go", 16), ("set", 2),
                  ("mark", 4), ("mark", 5), ("push", 2), ("tell",), ("go", 16), ("set", 1),
                  catches=((3, 6, 7, 0), (2, 8, 9, 0), (11, 14, 15, 0)), names=3)

    def test_empty_tries_within_a_try(self):
        self.lays("try\ntry\ncatch v\nend\ntry\ncatch v\nend\ncatch v\nend",
                  ("mark", 1), ("mark", 2), ("go", 5), ("set", 1), ("mark", 3), ("go", 8), ("set", 1), ("go", 10),
                  ("set", 1), catches=((3, 3, 4, 0), (6, 6, 7, 0), (2, 8, 9, 0)), names=2)

    def test_heights(self):
        def heights(*block):
            # Some of these lie one block beyond the bounds of programs, for which nothing is refused.
            return [catch[3] for catch in book_of((PROGRAM[0], (), block))[1][0][1]]

        inner = ("try", (("tell", 1),), "v", ())
        self.assertEqual(heights(inner), [0])
        self.assertEqual(heights(("repeat", 1, (inner,))), [1])
        self.assertEqual(heights(("repeat", 1, (("repeat", 2, (inner,)),))), [2])
        self.assertEqual(heights(("repeat", 1, (("repeat", 2, (("repeat", 3, (inner,)),)),))), [3])
        self.assertEqual(heights(("while", 1, (inner,))), [0])
        self.assertEqual(heights(("if", 1, (inner,), (inner,))), [0, 0])
        self.assertEqual(heights(("repeat", 1, (("while", 1, (inner,)),))), [1])
        self.assertEqual(heights(("while", 1, (("repeat", 1, (inner,)),))), [1])
        self.assertEqual(heights(("repeat", 1, (inner,)), inner), [1, 0])
        self.assertEqual(heights(("try", (("repeat", 1, (inner,)),), "w", (("repeat", 1, (inner,)),))), [1, 0, 1])
        self.assertEqual(heights(("repeat", 1, (("repeat", 2, (inner,)), inner)), inner), [2, 1, 0])
        self.assertEqual(heights(("repeat", 1, (("try", (inner,), "w", (inner,)),))), [1, 1, 1])

    def test_a_try_in_two_repeats(self):
        block = (("repeat", 2, (("repeat", 3, (("try", (("throw", 4),), "v", (("tell", ("name", "v")),)),)),)),)
        rows, catches, params, names = book_of((PROGRAM[0], (), block))[1][0]
        self.assertEqual(rows, HEAD + (
            ("mark", 1), ("push", 2), ("go", 5), ("mark", 1), ("round", 22),
            ("mark", 2), ("push", 3), ("go", 10), ("mark", 2), ("round", 21),
            ("mark", 3), ("mark", 4), ("push", 4), ("throw",), ("go", 20), ("set", 1),
            ("mark", 5), ("name", 1), ("tell",), ("go", 9), ("go", 4)) + TAIL)
        self.assertEqual((catches, params, names), (((12, 15, 16, 2),), 0, 2))


class TestNames(RowCase):
    def numbers(self, rows, heads=KINDS, number=0):
        """The numbers of names as rows have them, and how many names there are."""
        body = self.body(rows, heads, number)
        return [row[1] for row in body[0] if row[0] in ("name", "set")], body[3]

    def test_as_they_first_stand(self):
        self.assertEqual(self.numbers("tell name q\ntell name p\ntell name q"), ([1, 2, 1], 3))
        self.assertEqual(self.numbers("tell me\ntell name p"), ([0, 1], 2))
        self.assertEqual(self.numbers("tell 1"), ([], 1))

    def test_x_of_let_ahead_of_its_expression(self):
        self.assertEqual(self.numbers("let p name q\ntell name q"), ([2, 1, 2], 3))
        self.assertEqual(self.numbers("let p plus name q name p"), ([2, 1, 1], 3))

    def test_x_of_try_behind_its_first_block(self):
        self.assertEqual(self.numbers("try\ntell name q\ncatch p\ntell name r\nend"), ([1, 2, 3], 4))
        self.assertEqual(self.numbers("try\nlet q 1\ncatch q\nlet p name q\nend"), ([1, 1, 1, 2], 3))

    def test_in_parts_from_the_left(self):
        self.assertEqual(self.numbers("put name t x name u\ndo ask name w go 2 name v name t"), ([1, 2, 3, 4, 1], 5))
        self.assertEqual(self.numbers("if name r\ntell name q\nelse\ntell name p\nend\ntell name r"),
                         ([1, 2, 3, 1], 4))
        self.assertEqual(self.numbers("do up go 2 name v name w"), ([0, 1, 2], 3))

    def test_params(self):
        heads = deeds("deed a go p q\ntell name q\ntell name r\ntell name p\ntell me\nend\n"
                      "deed a on r q p\nlet v name p\nend\ndeed a none p\nend")
        self.assertEqual(self.numbers("", heads, 1), ([2, 3, 1, 0], 4))
        self.assertEqual(self.numbers("", heads, 2), ([3, 4], 5))
        self.assertEqual(self.numbers("", heads, 3), ([], 2))
        self.assertEqual([self.body("", heads, number)[2] for number in range(4)], [0, 2, 3, 1])

    def test_a_name_me(self):
        self.assertEqual(self.numbers("let me me\ntell name me\ntell me"), ([0, 1, 1, 0], 2))
        heads = deeds("deed a go p me\ntell name me\ntell me\nend")
        self.assertEqual(self.numbers("", heads, 1), ([2, 0], 3))

    def test_names_of_fields_and_deeds_are_none(self):
        self.assertEqual(self.numbers("put me v 1\ndrop me w\ndo ask me u 0\nstrip a t"), ([0, 0, 0], 1))


class TestBooks(RowCase):
    def test_a_book(self):
        self.assertEqual(book_of(PROGRAM), (table_of(PROGRAM), (
            (
                (("mark", 0), ("mark", 1), ("new", "c"), ("set", 1),
                 ("mark", 2), ("mark", 3), ("name", 1), ("ask", "go", 0), ("tell",), ("go", 13), ("set", 2),
                 ("mark", 4), ("elders", "c", ("a",)),
                 ("mark", 5), ("name", 1), ("push", 5), ("less",), ("unless", 25),
                 ("mark", 6), ("push", None), ("unless", 24), ("mark", 7), ("strip", "a", "go"), ("go", 24),
                 ("go", 13), ("push", None), ("give",)),
                ((5, 9, 10, 0),), 0, 3,
            ),
            (
                (("mark", 0), ("mark", 1), ("name", 1), ("push", 1), ("plus",), ("set", 3), ("mark", 2), ("name", 3),
                 ("give",), ("push", None), ("give",)),
                (), 2, 4,
            ),
            (
                (("mark", 0), ("mark", 1), ("name", 0), ("push", 1), ("push", 2), ("up", "go", 2), ("give",),
                 ("push", None), ("give",)),
                (), 0, 1,
            ),
            ((("mark", 0), ("push", None), ("give",)), (), 0, 1),
        )))

    def test_no_deeds_and_eight(self):
        empty = ((("mark", 0), ("push", None), ("give",)), (), 0, 1)
        self.assertEqual(book_of(read_program("kind a 0\nrun\nend")),
                         ((("a", (), ("a",), (), (), 0),), (empty,)))
        rows = ["kind a 0"]
        for letter in "hgfedcba":
            rows += ["deed a " + letter, "tell 1", "end"]
        table, bodies = book_of(read_program("\n".join(rows + ["run", "end"])))
        self.assertEqual(len(bodies), 9)
        self.assertEqual(bodies[0], empty)
        self.assertEqual(len(set(bodies[1:])), 1)
        self.assertEqual(table[0][4], tuple(zip("abcdefgh", range(8, 0, -1))))

    def test_each_body_begins_and_ends_alike(self):
        for one in some_programs("books", 100):
            for rows, catches, params, names in book_of(one)[1]:
                self.assertEqual((rows[:1], rows[-2:]), (HEAD, TAIL))
                self.assertEqual([catch[1] for catch in catches], sorted(catch[1] for catch in catches))
                self.assertLess(params, names)

    def test_statements_are_marked_as_they_are_numbered(self):
        for one in some_programs("marks", 100):
            for body, block in zip(book_of(one)[1], [one[2]] + [deed[3] for deed in one[1]]):
                marks = [row[1] for row in body[0] if row[0] == "mark"]
                self.assertEqual(sorted(set(marks)), list(range(max(marks) + 1)))
                # Those of repeat alone stand twice, the second ahead of all within.
                self.assertEqual(marks, sorted(marks))
                self.assertEqual(len(marks) - len(set(marks)), repr(block).count("('repeat',"))

    def test_forms_of_all_parts(self):
        for statement in STATEMENTS:
            one = (PROGRAM[0], (), (statement,))
            self.assertEqual(book_of(one)[1][0][0][:2], (("mark", 0), ("mark", 1)))
        for expression in EXPRESSIONS:
            rows = book_of((PROGRAM[0], (), (("give", expression),)))[1][0][0]
            self.assertEqual(rows[-3], ("give",))
