"""Rows one by one, states, and runs that are stopped and gone on with."""

import copy
import unittest

from makers import some_programs
from more_books import TABLE, some_books
from plain_rows import told_by_rows
from plain_states import PlainStates
from test_errors import REFUSALS
from test_looker import fits
from test_programs import PROGRAM
from test_trees import deeds, program
from things import ALIENS
from warmrows.changes import changed
from warmrows.errors import NoLimit, RowError
from warmrows.looker import is_book, look
from warmrows.machine import asks_of, gone_on, started, telling
from warmrows.rows import book_of
from warmrows.shapes import fields_at
from warmrows.tables import is_table
from warmrows.trees import run_trees

A, B, C = ("new", "a"), ("new", "b"), ("new", "c")
END = (("push", None), ("give",))
THING = ("thing", 0)
NO_LIMITS = ALIENS + [None, 401, 402, 10 ** 30, "1", "a", (), (1,), ((),), [1], {1: 1}]


def body(*rows, catches=(), params=0, names=4):
    return (rows, catches, params, names)


GIVES = {
    1: body(("mark", 0), ("push", 11), ("give",)),
    2: body(("mark", 0), ("name", 1), ("give",), params=1),
    3: body(("mark", 0), ("push", 33), ("give",)),
    4: body(("mark", 0), ("name", 0), ("give",), params=1),
}


def book_with(first, **others):
    """A book whose RUN is this body; others by their numbers."""
    bodies = [first] + [others.get(f"body{number}", GIVES[number]) for number in range(1, 5)]
    return (TABLE, tuple(bodies))


class MachineCase(unittest.TestCase):
    def good(self, book):
        self.assertIs(is_book(book), True, book)
        return book

    def behind(self, *rows, steps=1, **others):
        """The state behind rows of RUN, ahead of the mark that stands there; these are no catch's."""
        book = self.good(book_with(body(("mark", 0), *rows, ("mark", 50), *END), **others))
        state = gone_on(book, started(book), steps)
        self.assertIsNone(state[6])
        self.assertEqual(state[0], steps)
        self.assertEqual(state[1][0][:3], (0, None, len(rows) + 1))
        self.assertEqual(len(state[1]), 1)
        return state

    def pile(self, pile, *rows, **others):
        """Behind these rows the pile is this, above two that stay as they are."""
        state = self.behind(("push", 7), ("push", 8), *rows, **others)
        self.assertEqual(state[1][0][4], (7, 8) + pile, rows)
        return state

    def throws(self, value, *rows, steps=1, statements=(0,), **others):
        """The last of these rows throws: out of the run, and caught, all that it takes being gone."""
        first = (("mark", 0), ("push", 7), ("push", 8)) + rows
        book = self.good(book_with(body(*first, *END), **others))
        state = gone_on(book, started(book), 400)
        bodies = tuple(point[0] for point in state[6][2])
        self.assertEqual(state[6], ("fault", value, tuple(zip(bodies, statements))), rows)
        self.assertEqual(bodies[0], 0)
        self.assertEqual(state[1], ())
        at = len(first)
        for height in (0, 1, 2):
            caught = body(*first, *END, ("mark", 50), *END, catches=((at - 1, at, at + 2, height),))
            book = self.good(book_with(caught, **others))
            state = gone_on(book, started(book), steps)
            self.assertEqual(state[1][0][2], at + 2)
            self.assertEqual(state[1][0][4], (7, 8)[:height] + (value,), rows)
            self.assertEqual(len(state[1]), 1)
        return state


class TestRows(MachineCase):
    def test_push(self):
        for value in (0, 1, -5, 999999999, -999999999, None):
            self.pile((value,), ("push", value))

    def test_name_and_set(self):
        state = self.pile((), ("push", 5), ("set", 2))
        self.assertEqual(state[1][0][3], (None, None, 5, None))
        self.pile((5, None), ("push", 5), ("set", 3), ("name", 3), ("name", 1))
        self.pile((None, 4, 4), ("name", 0), ("push", 4), ("set", 0), ("name", 0), ("name", 0))
        state = self.pile((), ("push", 5), ("set", 1), ("push", 6), ("set", 1))
        self.assertEqual(state[1][0][3], (None, 6, None, None))

    def test_set_of_me_in_a_body(self):
        self.pile((9,), A, ("ask", "go", 0), body1=body(("mark", 0), ("push", 9), ("set", 0), ("name", 0), ("give",)),
                  steps=2)
        # What is asked up is the thing on the pile, whatever me is.
        self.pile((11,), B, ("ask", "go", 0), steps=3,
                  body3=body(("mark", 0), ("name", 0), ("push", None), ("set", 0), ("up", "go", 0), ("give",)))

    def test_pop_and_tell(self):
        self.assertEqual(self.pile((), ("push", 5), ("pop",))[5], ())
        self.assertEqual(self.pile((), ("push", 5), ("tell",))[5], (5,))
        self.assertEqual(self.pile((6,), ("push", 6), A, ("tell",), ("push", None), ("tell",))[5], (THING, None))

    def test_pairs(self):
        for word, first, second, told in (
                ("plus", 1, 2, 3), ("plus", 999999998, 1, 999999999), ("plus", -999999999, 0, -999999999),
                ("minus", 1, 2, -1), ("minus", 5, -5, 10), ("minus", -999999998, 1, -999999999), ("less", 1, 2, 1),
                ("less", 2, 1, 0), ("less", 1, 1, 0), ("alike", 1, 1, 1), ("alike", 1, 2, 0), ("alike", None, None, 1),
                ("alike", None, 0, 0)):
            self.pile((told,), ("push", first), ("push", second), (word,))
        self.pile((1,), A, ("set", 1), ("name", 1), ("name", 1), ("alike",))
        self.pile((0,), A, A, ("alike",))
        self.pile((0,), A, ("push", 0), ("alike",))

    def test_pairs_throw(self):
        for word in ("plus", "minus", "less"):
            for first, second in ((("push", None), ("push", 1)), (("push", 1), ("push", None)), (A, ("push", 1)),
                                  (("push", 1), A)):
                self.throws("kind", first, second, (word,))
        self.throws("great", ("push", 999999999), ("push", 1), ("plus",))
        self.throws("great", ("push", -999999999), ("push", 1), ("minus",))
        self.throws("great", ("push", 999999999), ("push", 999999999), ("plus",))

    def test_new(self):
        state = self.pile((THING, ("thing", 1), ("thing", 2)), B, A, B)
        self.assertEqual(state[2], (("b", 3, (None,) * 3), ("a", 2, (None,) * 2), ("b", 3, (None,) * 3)))
        self.assertEqual(state[4], ((), (0, "put", "x"), (1, "put", "y"), (2, "put", "z")))

    def test_get_and_put(self):
        state = self.pile((5, None), A, ("set", 1), ("name", 1), ("push", 5), ("put", "y"), ("name", 1), ("get", "y"),
                          ("name", 1), ("get", "x"))
        self.assertEqual(state[2], (("a", 2, (None, 5)),))
        state = self.pile((), A, ("set", 1), ("name", 1), ("push", 5), ("put", "w"), ("name", 1), ("name", 1),
                          ("put", "x"))
        self.assertEqual(state[2], (("a", 3, (THING, None, 5)),))
        self.assertEqual(fields_at(state[4], 3), ("x", "y", "w"))

    def test_drop(self):
        state = self.pile((), A, ("set", 1), ("name", 1), ("push", 5), ("put", "y"), ("name", 1), ("drop", "x"))
        self.assertEqual(state[2], (("a", 3, (5,)),))
        self.assertEqual(state[4][3], (2, "drop", "x"))
        state = self.pile((), A, ("set", 1), ("name", 1), ("drop", "x"), ("name", 1), ("push", 6), ("put", "x"))
        self.assertEqual(state[2], (("a", 4, (None, 6)),))
        self.assertEqual(state[4][3:], ((2, "drop", "x"), (3, "put", "x")))

    def test_fields_throw(self):
        self.throws("nofield", A, ("get", "z"))
        self.throws("nofield", A, ("drop", "z"))
        for value in (("push", None), ("push", 0), ("push", 1)):
            self.throws("nothing", value, ("get", "x"))
            self.throws("nothing", value, ("drop", "x"))
            self.throws("nothing", value, ("push", 1), ("put", "x"))
            self.throws("nothing", value, A, ("put", "x"))
            self.throws("nothing", value, ("become", "b"))

    def test_become(self):
        state = self.pile((), A, ("become", "b"))
        self.assertEqual(state[2], (("b", 2, (None, None)),))

    def test_throw(self):
        self.throws(5, ("push", 5), ("throw",))
        self.throws(None, ("push", None), ("throw",))
        self.throws(THING, A, ("throw",))

    def test_give(self):
        book = self.good(book_with(body(("mark", 0), ("push", 1), ("push", 2), ("give",))))
        self.assertEqual(gone_on(book, started(book), 400)[6], ("gave", 2))
        self.pile((11,), A, ("ask", "go", 0), steps=2)
        # What lies beneath on the other pile goes with its frame.
        self.pile((3,), A, ("ask", "go", 0), body1=body(("mark", 0), ("push", 1), ("push", 2), ("push", 3), ("give",)),
                  steps=2)

    def test_changes(self):
        for row, change in ((("turn", "a", "go", "b", "go"), ("own", "a", "go", 3)),
                            (("turn", "c", "no", "c", "go"), ("own", "c", "no", 3)),
                            (("turn", "a", "on", "b", "on"), ("own", "a", "on", 2)),
                            (("strip", "a", "on"), ("own", "a", "on", None)),
                            (("elders", "b", ()), ("elders", "b", ())),
                            (("elders", "c", ("a",)), ("elders", "c", ("a",)))):
            self.assertEqual(self.pile((), row)[3], changed(TABLE, change))

    def test_changes_throw(self):
        for row, word in ((("turn", "a", "go", "a", "no"), "nodeed"), (("strip", "b", "on"), "nodeed"),
                          (("elders", "a", ("a",)), "ring"), (("elders", "a", ("c",)), "ring"),
                          (("elders", "c", ("a", "b")), "quarrel")):
            self.assertEqual(self.throws(word, row)[3], TABLE)

    def test_ask(self):
        self.pile((11,), A, ("ask", "go", 0), steps=2)
        self.pile((33,), C, ("ask", "go", 0), steps=2)
        self.pile((5,), A, ("push", 5), ("ask", "on", 1), steps=2)
        self.pile((THING,), C, ("push", 5), ("ask", "on", 1), steps=2)
        three = body(("mark", 0), ("name", 1), ("tell",), ("name", 2), ("tell",), ("name", 3), ("tell",), ("name", 4),
                     ("give",), params=3, names=5)
        state = self.pile((None,), A, ("push", 1), ("push", 2), ("push", 3), ("ask", "on", 3), body2=three, steps=2)
        self.assertEqual(state[5], (1, 2, 3))

    def test_ask_throws(self):
        for value in (("push", None), ("push", 0), ("push", 4)):
            self.throws("nothing", value, ("ask", "go", 0))
            self.throws("nothing", value, A, A, ("ask", "no", 2))
            self.throws("nothing", value, ("up", "go", 0))
        self.throws("nodeed", A, ("ask", "no", 0))
        self.throws("nodeed", A, ("push", 1), ("push", 2), ("ask", "no", 2))
        self.throws("many", A, ("push", 1), ("ask", "go", 1))
        self.throws("many", A, ("ask", "on", 0))
        self.throws("many", A, ("push", 1), ("push", 2), ("push", 3), ("ask", "on", 3))

    def test_up(self):
        # In RUN there is no home.
        self.throws("nodeed", A, ("up", "go", 0))
        up = body(("mark", 0), ("name", 0), ("up", "go", 0), ("give",))
        self.pile((11,), B, ("ask", "go", 0), body3=up, steps=3)
        self.pile((11,), C, ("ask", "go", 0), body3=up, steps=3)
        # It looks for the kind of the thing on the pile, behind the home of the frame.
        other = body(("mark", 0), ("new", "a"), ("up", "go", 0), ("give",))
        book = self.good(book_with(body(("mark", 0), C, ("ask", "go", 0), *END), body3=other))
        self.assertEqual(gone_on(book, started(book), 400)[6], ("fault", "nodeed", ((0, 0), (3, 0))))
        other = body(("mark", 0), ("new", "c"), ("push", 5), ("up", "on", 1), ("give",))
        self.pile((5,), B, ("ask", "go", 0), body3=other, steps=3)

    def test_deep(self):
        again = body(("mark", 0), ("mark", 3), ("name", 0), ("ask", "go", 0), ("give",))
        book = self.good(book_with(body(("mark", 0), A, ("ask", "go", 0), ("give",)), body1=again))
        state = gone_on(book, started(book), 400)
        self.assertEqual(state[6], ("fault", "deep", ((0, 0),) + ((1, 3),) * 11))
        self.assertEqual(state[0], 1 + 2 * 11)

    def test_go_and_unless(self):
        self.pile((2,), ("go", 5), ("push", 1), ("push", 2))
        for row, pile in ((("push", 0), (2,)), (("push", None), (2,)), (("push", 1), (2,)), (A, (2,))):
            # Where it is yes an event is told on the way.
            state = self.pile(pile, row, ("unless", 7), ("push", 9), ("tell",), ("push", 2))
            self.assertEqual(state[5], () if row[1] in (0, None) else (9,))

    def test_keep(self):
        self.pile((5,), ("push", 5), ("keep", 6), ("push", 6))
        self.pile((THING,), A, ("keep", 6), ("push", 6))
        self.pile((6,), ("push", 0), ("keep", 6), ("push", 6))
        self.pile((6,), ("push", None), ("keep", 6), ("push", 6))
        self.pile((-1,), ("push", -1), ("keep", 6), ("push", 6))

    def test_round(self):
        for number, steps, events in ((3, 5, 3), (1, 3, 1), (0, 2, 0), (-4, 2, 0)):
            rows = (("push", number), ("mark", 1), ("round", 9), ("push", 1), ("tell",), ("go", 4))
            state = self.pile((), *rows, steps=steps)
            self.assertEqual(state[5], (1,) * events)
        self.pile((4,), ("push", 5), ("round", 6), ("go", 7), ("push", 1))

    def test_round_throws(self):
        for row in (("push", None), A):
            rows = (("mark", 0), ("push", 7), ("push", 8), row, ("round", 7), *END, *END, ("mark", 50), *END)
            book = self.good(book_with(body(*rows)))
            self.assertEqual(gone_on(book, started(book), 400)[6], ("fault", "kind", ((0, 0),)))
            for height in (0, 1, 2):
                book = self.good(book_with(body(*rows, catches=((4, 5, 9, height),))))
                state = gone_on(book, started(book), 1)
                self.assertEqual(state[1], ((0, None, 9, (None,) * 4, (7, 8)[:height] + ("kind",)),))

    def test_mark(self):
        self.pile((), ("mark", 5), ("mark", 0), ("mark", 99), steps=4)


class TestCatches(MachineCase):
    def caught(self, at, catches):
        """Where RUN goes on behind what row 3 throws, with its pile; None where it ends."""
        rows = (("mark", 0), ("push", 1), ("push", 2), ("throw",), *END, ("mark", 6), *END, ("mark", 9), *END)
        book = self.good(book_with(body(*rows, catches=catches)))
        state = gone_on(book, started(book), 1)
        self.assertEqual(state[6] is None, at is not None)
        if at is not None:
            self.assertEqual(state[1][0][2:], (at[0], (None,) * 4, at[1]))

    def test_from_and_to(self):
        self.caught((6, (2,)), ((3, 4, 6, 0),))
        self.caught((6, (2,)), ((1, 4, 6, 0),))
        self.caught((6, (1, 2)), ((3, 5, 6, 1),))
        self.caught(None, ((0, 3, 6, 0),))
        self.caught(None, ((4, 5, 6, 0),))
        self.caught(None, ((3, 3, 6, 0),))
        self.caught(None, ())

    def test_the_first_of_them(self):
        self.caught((6, (2,)), ((3, 4, 6, 0), (3, 4, 9, 1)))
        self.caught((9, (1, 2)), ((3, 4, 9, 1), (3, 4, 6, 0)))
        self.caught((9, (2,)), ((0, 3, 6, 0), (3, 4, 9, 0)))
        self.caught((9, (2,)), ((1, 5, 9, 0), (3, 4, 6, 0)))

    def test_over_several_frames(self):
        inner = body(("mark", 0), ("push", 1), ("mark", 4), ("name", 0), ("push", None), ("ask", "on", 1), ("give",))
        last = body(("mark", 0), ("mark", 7), ("push", 77), ("throw",), params=1)
        for number, caught in ((0, True), (0, False)):
            rows = (("mark", 0), ("push", 5), ("mark", 2), A, ("ask", "go", 0), *END, ("mark", 6), *END)
            catches = ((4, 5, 7, 1),) if caught else ()
            book = self.good(book_with(body(*rows, catches=catches), body1=inner, body2=last))
            if caught:
                state = gone_on(book, started(book), 6)
                self.assertEqual(state[1], ((0, None, 7, (None,) * 4, (5, 77)),))
            else:
                state = gone_on(book, started(book), 400)
                self.assertEqual(state[6], ("fault", 77, ((0, 2), (1, 4), (2, 7))))

    def test_in_the_midst_of_frames(self):
        inner = body(("mark", 0), ("push", 1), ("name", 0), ("push", None), ("ask", "on", 1), ("give",), ("mark", 3),
                     ("give",), catches=((4, 5, 6, 1),))
        last = body(("mark", 0), ("push", 77), ("throw",), params=1)
        book = self.good(book_with(body(("mark", 0), ("push", 5), A, ("ask", "go", 0), ("give",)), body1=inner,
                                   body2=last))
        state = gone_on(book, started(book), 3)
        self.assertEqual(state[1], ((0, None, 3, (None,) * 4, (5,)), (1, "a", 6, (THING, None, None, None), (1, 77))))
        self.assertEqual(gone_on(book, state, 400)[6], ("gave", 77))

    def test_thrown_anew(self):
        rows = (("mark", 0), ("mark", 1), ("push", 5), ("throw",), ("mark", 2), ("throw",))
        book = self.good(book_with(body(*rows, catches=((3, 4, 4, 0),))))
        self.assertEqual(gone_on(book, started(book), 400)[6], ("fault", 5, ((0, 2),)))

    def test_a_catch_that_goes_back(self):
        # Each round catches at the mark ahead, and counts a step there; the names stay.
        rows = (("mark", 0), ("push", 0), ("mark", 1), ("push", 1), ("plus",), ("set", 1), ("name", 1), ("throw",))
        book = self.good(book_with(body(*rows, catches=((7, 8, 2, 0),))))
        for steps in range(2, 30):
            state = gone_on(book, started(book), steps)
            self.assertEqual(state[1], ((0, None, 2, (None, steps - 1, None, None), (steps - 1,)),))


class TestStatements(MachineCase):
    def test_the_last_mark_at_a_row_or_ahead_of_it(self):
        # By where rows stand, not by which mark was counted last.
        rows = (("mark", 9), ("go", 4), ("mark", 5), ("mark", 8), ("push", 1), ("throw",))
        book = self.good(book_with(body(*rows)))
        self.assertEqual(gone_on(book, started(book), 400)[6], ("fault", 1, ((0, 8),)))
        self.assertEqual(gone_on(book, started(book), 400)[0], 1)


SMALL = program("""let t new a
    put name t w 5
    tell ask name t go 1 6
    drop name t x
    strip a go
    give 3""", deeds("deed a go p\nlet q name p\ngive plus name q 1\nend"))


class TestStates(MachineCase):
    def test_started(self):
        for one in [PROGRAM, SMALL] + list(some_programs("started", 40)):
            book = book_of(one)
            table, bodies = book
            names = (None,) * bodies[0][3]
            self.assertEqual(started(book), (0, ((0, None, 0, names, ()),), (), table, ((),), (), None))

    def test_each_limit(self):
        book = book_of(SMALL)
        table = book[0]
        shapes = ((), (0, "put", "x"), (1, "put", "y"))
        more = shapes + ((2, "put", "w"),)
        last = more + ((3, "drop", "x"),)
        then = changed(table, ("own", "a", "go", None))
        first, put, left = (("a", 2, (None, None)),), (("a", 3, (None, None, 5)),), (("a", 4, (None, 5)),)
        rows = book[1][0][0]
        marks = [at for at, row in enumerate(rows) if row[0] == "mark"]
        ask = rows.index(("ask", "go", 1))

        def run(row, pile=(), thing=None):
            return (0, None, row, (None, thing), pile)

        def inner(row, named=None):
            return (1, "a", row, (THING, 6, named), ())

        states = [
            (0, (run(0),), (), table, ((),), (), None),
            (1, (run(marks[1]),), (), table, ((),), (), None),
            (2, (run(marks[2], (), THING),), first, table, shapes, (), None),
            (3, (run(marks[3], (), THING),), put, table, more, (), None),
            (4, (run(ask, (), THING), inner(0)), put, table, more, (), None),
            (5, (run(ask, (), THING), inner(1)), put, table, more, (), None),
            (6, (run(ask, (), THING), inner(4, 6)), put, table, more, (), None),
            (7, (run(marks[4], (), THING),), put, table, more, (7,), None),
            (8, (run(marks[5], (), THING),), left, table, last, (7,), None),
            (9, (run(marks[6], (), THING),), left, then, last, (7,), None),
            (10, (), left, then, last, (7,), ("gave", 3)),
        ]
        for limit, state in enumerate(states):
            self.assertEqual(gone_on(book, started(book), limit), state, limit)
        for limit in (11, 12, 399, 400):
            self.assertEqual(gone_on(book, started(book), limit), states[-1])
        for at, state in enumerate(states):
            # One that is no more than STEPS stops at once.
            for limit in range(at + 1):
                self.assertEqual(gone_on(book, state, limit), state)
            for limit, other in enumerate(states[at:], start=at):
                self.assertEqual(gone_on(book, state, limit), other)
        for limit in (0, 9, 10, 11, 400):
            self.assertEqual(gone_on(book, states[-1], limit), states[-1])

    def test_a_fault_at_the_end(self):
        book = book_of(program("let t new a\ntell 1\nthrow name t"))
        state = gone_on(book, started(book), 400)
        self.assertEqual(state[1], ())
        self.assertEqual(state[6], ("fault", THING, ((0, 3),)))
        for limit in (0, 4, 400):
            self.assertEqual(gone_on(book, state, limit), state)

    def test_things_of_one_story_are_of_one_shape(self):
        book = book_of(program("""let t new a
            let u new a
            let v new d
            put name v x 1
            put name v y 2
            put name t w 1
            drop name u x
            put name u w none
            drop name t x
            let w new b"""))
        state = gone_on(book, started(book), 400)
        shapes = [thing[1] for thing in state[2]]
        self.assertEqual(shapes[3], 2)
        self.assertEqual([fields_at(state[4], shape) for shape in shapes],
                         [("y", "w"), ("y", "w"), ("x", "y"), ("x", "y")])
        # The same fields by other stories.
        self.assertNotEqual(shapes[0], shapes[1])
        self.assertEqual(shapes[2], shapes[3])
        self.assertEqual([thing[2] for thing in state[2]], [(None, 1), (None, None), (1, 2), (None, None)])

    def test_telling(self):
        book = book_of(SMALL)
        for limit in range(13):
            self.assertEqual(telling(gone_on(book, started(book), limit)), run_trees(SMALL, limit))


class TestLimits(MachineCase):
    def test_what_is_no_limit(self):
        book = book_of(SMALL)
        for state in (started(book), gone_on(book, started(book), 5), gone_on(book, started(book), 400)):
            for door in (gone_on, asks_of):
                for limit in NO_LIMITS:
                    for taken in (NoLimit, RowError, ValueError):
                        with self.assertRaises(taken):
                            door(book, state, limit)
                    try:
                        door(book, state, limit)
                    except RowError as error:
                        self.assertEqual([one for one in REFUSALS if isinstance(error, one)], [NoLimit])
                for limit in (0, 400):
                    door(book, state, limit)


class TestWholeRuns(MachineCase):
    def goes(self, book, most):
        """One step on at a time, and at once, to the states of the plain machine; each state keeps its form."""
        state = started(book)
        tables = [look(book, number)[1] for number in range(len(book[1]))]
        for limit in range(most + 1):
            before = copy.deepcopy(state)
            on = gone_on(book, state, limit)
            self.assertEqual(state, before)
            self.assertEqual(on, PlainStates(book, limit).state())
            self.assertEqual(on, gone_on(book, started(book), limit))
            self.assertEqual(telling(on), told_by_rows(book, limit))
            self.keeps_form(book, tables, on)
            if on == state and limit:
                self.assertEqual(on[1], ())
                break
            state = on
        for limit in (0, 3, 17, most):
            stop = gone_on(book, started(book), limit)
            self.assertEqual(gone_on(book, stop, most), gone_on(book, started(book), most))
        return limit

    def keeps_form(self, book, tables, state):
        steps, frames, things, table, shapes, events, ending = state
        self.assertEqual(frames == (), ending is not None)
        self.assertTrue(is_table(table))
        for at, (number, home, row, names, pile) in enumerate(frames):
            its = book[1][number][0][row]
            words = tables[number][row]
            self.assertEqual(len(names), book[1][number][3])
            if at == len(frames) - 1:
                self.assertEqual(its[0], "mark")
            else:
                self.assertIn(its[0], ("ask", "up"))
                words = words[:len(words) - 1 - its[2]]
            self.assertEqual(len(words), len(pile))
            self.assertTrue(all(map(fits, words, pile)))
            self.assertEqual((number, home), (0, None) if at == 0 else (number, home))
        for kind, shape, values in things:
            self.assertEqual(len(fields_at(shapes, shape)), len(values))
        self.assertEqual(len(set(shapes)), len(shapes))

    def test_programs(self):
        steps = sum(self.goes(book_of(one), 60) for one in some_programs("machine", 80))
        self.assertGreater(steps, 500)

    def test_programs_by_trees(self):
        for one in some_programs("by trees", 150):
            book = book_of(one)
            state = started(book)
            for limit in list(range(0, 40)) + [100, 400]:
                state = gone_on(book, state, limit)
                self.assertEqual(telling(state), run_trees(one, limit))

    def test_other_books(self):
        steps = sum(self.goes(book, 60) for book in some_books("machine", 80))
        self.assertGreater(steps, 800)

    def test_beyond_bounds(self):
        # A number of ten figures may come of a program beyond its bounds.
        one = program("tell 1")
        one = one[:2] + ((("tell", 10 ** 12), ("tell", ("minus", 10 ** 12, 10 ** 12)), ("repeat", -2, (("tell", 2),))),)
        book = book_of(one)
        self.assertEqual(telling(gone_on(book, started(book), 400)), run_trees(one, 400))
