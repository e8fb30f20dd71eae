"""Records that lie: looking tells otherwise, or they name a shape that isn't there."""

import copy
import random
import unittest

from lively import some_lively
from makers import some_programs
from more_books import some_books
from plain_states import other_record, plain_lies
from test_trees import deeds, program
from test_warm import CHANGING, HEADS, WARMINGS
from warmrows.lies import lies
from warmrows.machine import gone_on, started
from warmrows.rows import book_of
from warmrows.warm import warm_on

# c's number is 2 behind it, those of b 1 and of a 0; there are shapes 0 to 4.
ROWS = """let t new b
    put name t x 1
    put name t w 2
    drop name t w
    tell get name t x
    turn b go a go
    turn c on a on
    tell ask name t go 0
    tell ask name t up 0
    let u new c"""
DEEDS = deeds("""deed a go
    give 1
    end
    deed b go
    give 2
    end
    deed a on
    give 3
    end
    deed b up
    give up go 0
    end""")


class LieCase(unittest.TestCase):
    def setUp(self):
        self.book = book_of(program(ROWS, DEEDS))
        self.state = gone_on(self.book, started(self.book), 400)
        self.assertEqual(self.state[6], ("gave", None))

    def place(self, row, *records):
        """The place of the first row that is so."""
        for number, body in enumerate(self.book[1]):
            if row in body[0]:
                return (number, body[0].index(row), ("warm", 0, records, (1, 0, 0, 0)))
        return None

    def told(self, row, *records):
        place = self.place(row, *records)
        told = lies(self.book, self.state, (place,))
        self.assertEqual(told, plain_lies(self.book, self.state, (place,)))
        for one in told:
            self.assertEqual(one[:2], place[:2])
        return [one[2:] for one in told]

    def lies(self, row, *record):
        self.assertEqual(self.told(row, record), [record[:2]], record)

    def is_so(self, row, *record):
        self.assertEqual(self.told(row, record), [], record)


class TestEachRow(LieCase):
    def test_the_state(self):
        self.assertEqual([row[5] for row in self.state[3]], [0, 1, 2, 0])
        self.assertEqual(self.state[4], ((), (0, "put", "x"), (1, "put", "y"), (2, "put", "w"), (3, "drop", "w"),
                                         (2, "put", "z")))

    def test_ask(self):
        ask = ("ask", "go", 0)
        self.is_so(ask, "b", 1, ("b", 1))
        self.lies(ask, "b", 1, ("b", 2))
        self.lies(ask, "b", 1, ("a", 1))
        self.lies(ask, "b", 1, None)
        # Below, whatever the answer is; above, too.
        for answer in (("b", 1), ("b", 2), ("a", 1), ("d", 3), None):
            self.is_so(ask, "b", 0, answer)
            self.lies(ask, "b", 2, answer)
            self.lies(ask, "b", 99, answer)
            self.lies(ask, "a", 1, answer)
            self.is_so(ask, "c", 1, answer)
        self.is_so(ask, "a", 0, ("a", 1))
        self.is_so(ask, "c", 2, ("b", 1))
        self.lies(ask, "c", 2, ("c", 1))
        self.is_so(ask, "d", 0, None)
        self.lies(ask, "d", 0, ("a", 1))

    def test_up(self):
        up = ("up", "go", 0)
        self.is_so(up, ("b", "b"), 1, ("a", 1))
        self.lies(up, ("b", "b"), 1, ("b", 1))
        self.lies(up, ("b", "b"), 1, None)
        self.is_so(up, ("b", "a"), 1, None)
        self.is_so(up, ("b", None), 1, None)
        self.lies(up, ("b", None), 1, ("a", 1))
        self.is_so(up, ("c", "c"), 2, ("b", 1))
        self.is_so(up, ("c", "b"), 2, ("a", 1))
        for answer in (("a", 1), ("b", 2), None):
            self.is_so(up, ("b", "b"), 0, answer)
            self.lies(up, ("b", "b"), 2, answer)
            self.lies(up, ("a", "b"), 1, answer)

    def test_new(self):
        new = ("new", "b")
        self.is_so(new, "b", 1, 2)
        for answer in (0, 1, 3, 4, 5, None):
            self.lies(new, "b", 1, answer)
        for answer in (0, 1, 2, 5, None):
            self.is_so(new, "b", 0, answer)
            self.lies(new, "b", 2, answer)
        # A shape that isn't there, whatever the number.
        for answer in (6, 7, 99, -1):
            for number in (0, 1, 2):
                self.lies(new, "b", number, answer)
        self.is_so(("new", "c"), "c", 2, 5)
        self.lies(("new", "c"), "c", 2, 2)
        self.is_so(new, "d", 0, 0)

    def test_get(self):
        get = ("get", "x")
        for number in (0, 1, 7):
            self.is_so(get, 1, number, (0, 1))
            self.is_so(get, 2, number, (0, 2))
            self.is_so(get, 4, number, (0, 4))
            self.is_so(get, 0, number, None)
            self.lies(get, 0, number, (0, 0))
            self.lies(get, 2, number, (1, 2))
            self.lies(get, 2, number, (0, 1))
            self.lies(get, 2, number, None)
            self.lies(get, 2, number, (0, 6))
            self.lies(get, 6, number, (0, 6))
            self.lies(get, 6, number, None)
            self.lies(get, -1, number, (0, 5))
            self.lies(get, 99, number, (0, 99))

    def test_put(self):
        put = ("put", "w")
        for number in (0, 1, 7):
            self.is_so(put, 2, number, (2, 3))
            self.is_so(put, 3, number, (2, 3))
            self.lies(put, 2, number, (1, 3))
            self.lies(put, 2, number, (2, 4))
            self.lies(put, 2, number, (2, 2))
            self.lies(put, 2, number, None)
            # The shape that would come isn't there.
            for shape in range(8):
                self.lies(put, 4, number, (2, shape))
                self.lies(put, 1, number, (1, shape))
            self.lies(put, 4, number, None)
            self.lies(put, 6, number, (0, 6))
            self.lies(put, 6, number, (0, 1))
            self.lies(put, -1, number, (3, 3))
        self.is_so(("put", "x"), 0, 0, (0, 1))
        self.is_so(("put", "x"), 3, 0, (0, 3))

    def test_drop(self):
        drop = ("drop", "w")
        for number in (0, 1, 7):
            self.is_so(drop, 3, number, (2, 4))
            self.is_so(drop, 2, number, None)
            self.is_so(drop, 0, number, None)
            self.lies(drop, 3, number, (1, 4))
            self.lies(drop, 3, number, (2, 3))
            self.lies(drop, 3, number, (2, 2))
            self.lies(drop, 3, number, (2, 6))
            self.lies(drop, 3, number, None)
            self.lies(drop, 2, number, (2, 4))
            self.lies(drop, 6, number, None)

    def test_a_drop_to_a_shape_that_is_not_there(self):
        book = book_of(program("let t new a\nif none\ndrop name t x\nelse\nend"))
        state = gone_on(book, started(book), 400)
        at = book[1][0][0].index(("drop", "x"))
        for answer in ((0, 3), (0, 2), None):
            place = (0, at, ("warm", 0, ((2, 0, answer),), (1, 0, 0, 0)))
            self.assertEqual(lies(book, state, (place,)), ((0, at, 2, 0),))


class TestWhole(LieCase):
    def test_as_they_stand(self):
        ask = self.place(("ask", "go", 0), ("b", 2, ("b", 1)), ("a", 0, ("a", 1)), ("c", 3, None), ("d", 1, None))
        new = self.place(("new", "b"), ("b", 0, 9), ("b", 0, 1))
        up = self.place(("up", "go", 0), (("c", "b"), 2, None), (("c", "a"), 2, None))
        told = [new[:2] + ("b", 0), ask[:2] + ("b", 2), ask[:2] + ("c", 3), ask[:2] + ("d", 1),
                up[:2] + (("c", "b"), 2)]
        self.assertEqual(lies(self.book, self.state, (new, ask, up)), tuple(told))
        before = copy.deepcopy((self.book, self.state, (new, ask, up)))
        self.assertEqual(lies(self.book, self.state, (new, ask, up)), tuple(told))
        self.assertEqual((self.book, self.state, (new, ask, up)), before)

    def test_no_records(self):
        self.assertEqual(lies(self.book, self.state, ()), ())
        place = self.place(("new", "b"))
        for standing in ("cold", "wild"):
            self.assertEqual(lies(self.book, self.state, (place[:2] + ((standing, 1, (), (1, 0, 0, 0)),),)), ())

    def test_by_the_state(self):
        # What is so at the end lies at the start, where its shape isn't there yet and its number is above.
        whole = warm_on(self.book, (0, 9, 1, 0), started(self.book), (), 400)[1]
        self.assertEqual(lies(self.book, self.state, whole), ())
        told = lies(self.book, started(self.book), whole)
        self.assertEqual(told, plain_lies(self.book, started(self.book), whole))
        self.assertGreater(len(told), 4)


class TestRuns(unittest.TestCase):
    def none_lies(self, book, warming, limits):
        """None of what was told with a state or earlier in its run."""
        state, places = started(book), ()
        told = []
        for limit in limits:
            state, places = warm_on(book, warming, state, places, limit)
            told.append(places)
            for earlier in told:
                self.assertEqual(lies(book, state, earlier), ())

    def test_programs(self):
        for number, one in enumerate(some_lively("lies", 40)):
            self.none_lies(book_of(one), WARMINGS[number % len(WARMINGS)], range(0, 100, 6))
        for number, one in enumerate(some_programs("lies", 60)):
            self.none_lies(book_of(one), WARMINGS[number % len(WARMINGS)], range(0, 40, 4))
        for rows in CHANGING:
            for warming in WARMINGS:
                self.none_lies(book_of(program(rows, HEADS)), warming, range(0, 80, 5))

    def test_other_books(self):
        for number, book in enumerate(some_books("lies", 60)):
            self.none_lies(book, WARMINGS[number % len(WARMINGS)], range(0, 60, 7))

    def test_against_plain_lies(self):
        source = random.Random("lies")
        many = {True: 0, False: 0}
        books = [book_of(one) for one in some_lively("plain lies", 40)] + list(some_books("plain lies", 30))
        for book in books:
            whole = warm_on(book, (0, 3, 1, 0), started(book), (), 80)[1]
            for limit in (0, 10, 30, 80):
                state = gone_on(book, started(book), limit)
                for _ in range(3):
                    places = self.spoilt(source, book, state, whole)
                    told = plain_lies(book, state, places)
                    many[told == ()] += 1
                    self.assertEqual(lies(book, state, places), told)
        self.assertGreater(many[False], 100)

    def spoilt(self, source, book, state, places):
        told = []
        for body, row, place in places:
            word = book[1][body][0][row][0]
            records = tuple(other_record(source, word, record, state) for record in place[2])
            told.append((body, row, place[:2] + (records,) + place[3:]))
        return tuple(told)
