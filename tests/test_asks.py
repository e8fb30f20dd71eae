"""The asks on the way to a limit: by what rows ask, and what they are told."""

import copy

from makers import some_programs
from more_books import TABLE, some_books
from plain_states import PlainStates
from test_machine import A, B, C, END, MachineCase, body, book_with
from test_trees import deeds, program
from warmrows.machine import asks_of, gone_on, started
from warmrows.rows import book_of


class TestAsks(MachineCase):
    def asks(self, asks, *rows, **others):
        """All asks of a run whose RUN has these rows behind its first; without MANY and BODY where they are RUN's."""
        book = self.good(book_with(body(("mark", 0), *rows, *END), **others))
        told = asks_of(book, started(book), 400)
        self.assertEqual([ask[2:] if ask[:2] == (1, 0) else ask for ask in told], asks, rows)
        return book

    def test_no_asks(self):
        self.asks([], ("push", 1), ("tell",), ("strip", "a", "go"))

    def test_new(self):
        self.asks([(1, "a", 0, 2), (2, "b", 2, 3), (3, "c", 1, 3), (4, "a", 0, 2)], A, B, C, A)
        # Of a kind without fields it is the shape without any.
        book = book_of(program("do new d\ndo new d\ndo new a"))
        self.assertEqual(asks_of(book, started(book), 400),
                         ((1, 0, 2, "d", 0, 0), (1, 0, 5, "d", 0, 0), (1, 0, 8, "a", 0, 2)))

    def test_get(self):
        self.asks([(1, "a", 0, 2), (2, 2, 0, (0, 2))], A, ("get", "x"))
        self.asks([(1, "a", 0, 2), (2, 2, 0, (1, 2))], A, ("get", "y"))
        self.asks([(1, "b", 2, 3), (2, 3, 0, (2, 3))], B, ("get", "z"))
        self.asks([(1, "a", 0, 2), (2, 2, 0, None)], A, ("get", "z"))

    def test_put(self):
        # Of an old field, and of a new one.
        self.asks([(1, "a", 0, 2), (3, 2, 0, (0, 2))], A, ("push", 1), ("put", "x"))
        self.asks([(1, "a", 0, 2), (3, 2, 0, (1, 2))], A, ("push", 1), ("put", "y"))
        self.asks([(1, "a", 0, 2), (3, 2, 0, (2, 3))], A, ("push", 1), ("put", "w"))
        self.asks([(1, "a", 0, 2), (5, 2, 0, (2, 3)), (8, 3, 0, (2, 3)), (11, 3, 0, (3, 4))],
                  A, ("set", 1), ("name", 1), ("push", 1), ("put", "w"), ("name", 1), ("push", 2), ("put", "w"),
                  ("name", 1), ("push", 3), ("put", "v"))
        # A shape that stands is not made anew.
        self.asks([(1, "b", 2, 3), (2, "a", 0, 2), (4, 2, 0, (2, 3))], B, A, ("push", 1), ("put", "z"))

    def test_drop(self):
        self.asks([(1, "a", 0, 2), (2, 2, 0, (0, 3))], A, ("drop", "x"))
        self.asks([(1, "a", 0, 2), (2, 2, 0, (1, 3))], A, ("drop", "y"))
        self.asks([(1, "a", 0, 2), (2, 2, 0, None)], A, ("drop", "w"))
        self.asks([(1, "a", 0, 2), (2, 2, 0, (0, 3)), (3, "a", 0, 2), (4, 2, 0, (0, 3))], A, ("drop", "x"), A,
                  ("drop", "x"))

    def test_ask(self):
        self.asks([(1, "a", 0, 2), (2, "a", 0, ("a", 1))], A, ("ask", "go", 0))
        self.asks([(1, "c", 1, 3), (2, "c", 1, ("b", 3))], C, ("ask", "go", 0))
        self.asks([(1, "b", 2, 3), (3, "b", 2, ("a", 2))], B, ("push", 1), ("ask", "on", 1))
        self.asks([(1, "c", 1, 3), (2, "c", 1, None)], C, ("ask", "no", 0))

    def test_up(self):
        # Where there is no home it is asked all the same.
        self.asks([(1, "a", 0, 2), (2, ("a", None), 0, None)], A, ("up", "go", 0))
        up = body(("mark", 0), ("name", 0), ("up", "go", 0), ("give",))
        self.asks([(1, "c", 1, 3), (2, "c", 1, ("b", 3)), (2, 3, 2, ("c", "b"), 1, ("a", 1))], C, ("ask", "go", 0),
                  body3=up)
        self.asks([(1, "a", 0, 2), (2, "a", 0, ("a", 1)), (2, 1, 2, ("a", "a"), 0, None)], A, ("ask", "go", 0),
                  body1=up)
        # Of a thing of a kind that hasn't the home in its order.
        other = body(("mark", 0), ("new", "a"), ("up", "go", 0), ("give",))
        self.asks([(1, "b", 2, 3), (2, "b", 2, ("b", 3)), (2, 3, 1, "a", 0, 2), (2, 3, 2, ("a", "b"), 0, None)], B,
                  ("ask", "go", 0), body3=other)

    def test_of_no_thing_there_is_no_ask(self):
        for value in (("push", None), ("push", 0), ("push", 5), ("name", 0)):
            for row in (("get", "x"), ("drop", "x"), ("ask", "go", 0), ("up", "go", 0), ("become", "a")):
                self.asks([], value, row)
            self.asks([], value, ("push", 1), ("put", "x"))
            self.asks([], value, ("push", 1), ("ask", "no", 1))
        book = book_of(program("do up go 0"))
        self.assertEqual(asks_of(book, started(book), 400), ())

    def test_numbers_behind_changes(self):
        self.asks([(1, "a", 0, 2), (3, "a", 1, 2), (4, "b", 3, 3), (6, "b", 4, 3), (7, "a", 1, 2)], A,
                  ("strip", "a", "on"), A, B, ("turn", "b", "go", "b", "go"), B, A)
        self.asks([(1, "c", 1, 3), (3, "c", 2, ("a", 1))], C, ("strip", "b", "go"), ("ask", "go", 0))
        self.asks([(1, "c", 1, 3), (3, "c", 2, 0)], C, ("elders", "c", ()), C)
        # A change that throws raises none.
        rows = (("mark", 0), ("strip", "a", "no"), ("pop",), A, *END)
        book = self.good(book_with(body(*(rows[:2] + (("go", 4),) + rows[2:]), catches=((1, 2, 3, 0),))))
        self.assertEqual(asks_of(book, started(book), 400), ((1, 0, 4, "a", 0, 2),))

    def test_kinds_that_things_become(self):
        self.asks([(1, "a", 0, 2), (6, "c", 1, ("b", 3))], A, ("set", 1), ("name", 1), ("become", "c"), ("name", 1),
                  ("ask", "go", 0))

    def test_many(self):
        again = body(("mark", 0), ("name", 0), ("ask", "go", 0), ("give",))
        book = self.good(book_with(body(("mark", 0), A, ("ask", "go", 0), ("give",)), body1=again))
        told = asks_of(book, started(book), 400)
        # The twelfth one ends deep, and is asked all the same.
        self.assertEqual(told, ((1, 0, 1, "a", 0, 2), (1, 0, 2, "a", 0, ("a", 1)))
                         + tuple((many, 1, 2, "a", 0, ("a", 1)) for many in range(2, 13)))

    def test_asks_that_end_many(self):
        self.asks([(1, "a", 0, 2), (3, "a", 0, ("a", 1))], A, ("push", 1), ("ask", "go", 1))
        self.asks([(1, "a", 0, 2), (2, "a", 0, ("a", 2))], A, ("ask", "on", 0))

    def test_from_the_midst(self):
        heads = deeds("deed a go p\nput me w name p\ngive get me w\nend\ndeed b go p\ngive up go 1 name p\nend")
        book = book_of(program("""let t new b
            repeat 3
            tell ask name t go 1 5
            turn b go b go
            end
            drop name t w""", heads))
        whole = asks_of(book, started(book), 400)
        self.assertEqual([ask[0] for ask in whole], [1] + [1, 2, 3, 3] * 3 + [1])
        self.assertEqual([ask[4] for ask in whole if ask[3] == "b"], [0, 0, 1, 2])
        steps = gone_on(book, started(book), 400)[0]
        for limit in range(steps + 2):
            stop = gone_on(book, started(book), limit)
            first = asks_of(book, started(book), limit)
            self.assertEqual(first + asks_of(book, stop, 400), whole)
            self.assertEqual(asks_of(book, stop, limit), ())
            for less in range(limit):
                self.assertEqual(asks_of(book, stop, less), ())


class TestWholeRuns(MachineCase):
    def holds(self, book):
        told = {}
        for limit in (0, 1, 5, 9, 30, 31, 400):
            stop = gone_on(book, started(book), limit)
            before = copy.deepcopy(stop)
            machine = PlainStates(book, limit)
            machine.state()
            told[limit] = asks_of(book, started(book), limit)
            self.assertEqual(told[limit], tuple(machine.asks))
            rest = asks_of(book, stop, 400)
            self.assertEqual(rest, asks_of(book, stop, 400))
            self.assertEqual(stop, before)
            told[limit] = told[limit] + rest
        self.assertEqual(len(set(told.values())), 1)
        return told[400]

    def test_programs(self):
        asks = [ask for one in some_programs("asks", 200) for ask in self.holds(book_of(one))]
        self.assertGreater(len(asks), 600)

    def test_other_books(self):
        asks = [ask for book in some_books("asks", 120) for ask in self.holds(book)]
        self.assertGreater(len(asks), 1000)
        self.assertGreater(len([ask for ask in asks if ask[5] is None]), 100)
        self.assertIn(("c", None), [ask[3] for ask in asks])
        self.assertEqual({row[0] for row in TABLE}, {ask[3] for ask in asks if isinstance(ask[3], str)})
