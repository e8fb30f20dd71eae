"""Warm rows: what they remember changes nothing that is told but their places."""

import copy
import itertools
import random
import unittest

from lively import some_lively
from makers import some_programs
from more_books import some_books
from plain_states import NEW, altered, places_by, plain_lies
from test_errors import REFUSALS
from test_machine import NO_LIMITS
from test_trees import deeds, program
from warmrows.errors import NoLimit, RowError
from warmrows.machine import asks_of, gone_on, started, telling
from warmrows.rows import book_of
from warmrows.trees import run_trees
from warmrows.warm import warm_on

WARMINGS = [(0, 1, 1, 0), (0, 9, 9, 9), (9, 1, 9, 0), (9, 9, 1, 9), (1, 2, 2, 1), (0, 2, 3, 0), (2, 1, 2, 0),
            (0, 3, 1, 1)]


class WarmCase(unittest.TestCase):
    def stops(self, book, warming, limits):
        """The states and PLACES at limits that rise, one gone on to from the other."""
        state, places = started(book), ()
        stops = []
        for limit in limits:
            state, places = warm_on(book, warming, state, places, limit)
            stops.append((state, places))
        return stops

    def holds(self, book, warming, limits):
        """At each limit the state is that of plain rows, and PLACES are what the asks make; the same at once."""
        for limit, (state, places) in zip(limits, self.stops(book, warming, limits)):
            self.assertEqual(state, gone_on(book, started(book), limit))
            asks = asks_of(book, started(book), limit)
            self.assertEqual(places, places_by(warming, asks))
            self.assertEqual(warm_on(book, warming, started(book), (), limit), (state, places))
            self.assertEqual([place[:2] for place in places], sorted({ask[1:3] for ask in asks}))
        return places


HEADS = deeds("""deed a go
    give 1
    end
    deed b go
    give 2
    end
    deed a on p
    give plus name p 1
    end
    deed a turns
    turn a go b go
    give ask me go 0
    end
    deed a falls
    strip a on
    throw 5
    end
    deed b up
    give up go 0
    end""")


class TestPlaces(WarmCase):
    def test_nothing_asked(self):
        book = book_of(program("tell 1"))
        for warming in WARMINGS:
            self.assertEqual(warm_on(book, warming, started(book), (), 400), (gone_on(book, started(book), 400), ()))

    def test_one_loop(self):
        book = book_of(program("let t new a\nrepeat 5\ntell ask name t go 0\nend", HEADS))
        new, ask = [(0, book[1][0][0].index(row)) for row in (("new", "a"), ("ask", "go", 0))]
        made, went = ("a", 0, 2), ("a", 0, ("a", 1))
        for warming, place, other in (
                ((0, 1, 1, 0), ("warm", 0, (made,), (1, 0, 0, 0)), ("warm", 0, (went,), (1, 4, 0, 0))),
                ((1, 1, 1, 0), ("cold", 1, (), (1, 0, 0, 0)), ("warm", 0, (went,), (2, 3, 0, 0))),
                ((4, 1, 1, 0), ("cold", 1, (), (1, 0, 0, 0)), ("warm", 0, (went,), (5, 0, 0, 0))),
                ((5, 1, 1, 0), ("cold", 1, (), (1, 0, 0, 0)), ("cold", 5, (), (5, 0, 0, 0)))):
            state, places = warm_on(book, warming, started(book), (), 400)
            self.assertEqual(places, (new + (place,), ask + (other,)))
            self.assertEqual(state[5], (1,) * 5)

    def test_each_row_has_its_place(self):
        book = book_of(program("""let t new b
            repeat 4
            put name t x 1
            put name t w 2
            tell get name t x
            drop name t w
            do ask name t up 0
            end""", HEADS))
        places = self.holds(book, (0, 9, 1, 0), range(0, 60))
        words = [book[1][body][0][row][0] for body, row, place in places]
        self.assertEqual(words, ["new", "put", "put", "get", "drop", "ask", "up"])
        self.assertEqual([place[0] for body, row, place in places], ["warm"] * 7)
        up = places[6][2]
        self.assertEqual(up[2], ((("b", "b"), 0, ("a", 1)),))

    def test_places_that_are_handed_in_are_kept(self):
        book = book_of(program("let t new a\ntell ask name t go 0\ntell 1\ntell ask name t on 1 1", HEADS))
        whole = warm_on(book, (0, 1, 1, 0), started(book), (), 400)[1]
        self.assertEqual(len(whole), 3)
        stop = gone_on(book, started(book), 5)
        state, places = warm_on(book, (0, 1, 1, 0), stop, whole, 400)
        self.assertEqual(state, gone_on(book, started(book), 400))
        self.assertEqual(places[:2], whole[:2])
        self.assertEqual(places[2][2][3], (1, 1, 0, 0))
        # In between, too, and where nothing is asked.
        self.assertEqual(warm_on(book, (0, 1, 1, 0), started(book), whole[1:], 1), (gone_on(book, started(book), 1),
                                                                                      whole[1:]))
        ended = gone_on(book, started(book), 400)
        for limit in (0, 9, 400):
            self.assertEqual(warm_on(book, (0, 1, 1, 0), ended, whole, limit), (ended, whole))

    def test_wild_and_cold_again(self):
        book = book_of(program("""let t new a
            let u new b
            repeat 6
            let v ask name t go 0
            let w name t
            let t name u
            let u name w
            end""", HEADS))
        at = book[1][0][0].index(("ask", "go", 0))
        standings = []
        for state, places in self.stops(book, (0, 1, 2, 0), range(0, 60)):
            standings += [place[0] for body, row, place in places if row == at]
        changes = [one for one, other in zip(standings, [None] + standings) if one != other]
        self.assertEqual(changes, ["warm", "wild", "cold", "warm", "wild"])


class TestTaking(WarmCase):
    """What a record tells is taken, as long as it is one of the number that is asked by."""

    def place(self, book, row, record):
        return ((0, book[1][0][0].index(row), ("warm", 0, (record,), (1, 0, 0, 0))),)

    def told(self, rows, row, record):
        book = book_of(program(rows, HEADS))
        return warm_on(book, (0, 1, 1, 0), started(book), self.place(book, row, record), 400)

    def test_a_hit_is_taken(self):
        rows, row = "let t new a\ntell ask name t go 0", ("ask", "go", 0)
        self.assertEqual(self.told(rows, row, ("a", 0, ("a", 1)))[0][5], (1,))
        # A record that lies shows that it is taken.
        self.assertEqual(self.told(rows, row, ("a", 0, ("b", 2)))[0][5], (2,))
        state = self.told("let t new a\nput name t x 5\ntell get name t y", ("get", "y"), (2, 0, (0, 2)))[0]
        self.assertEqual(state[5], (5,))
        state = self.told("let t new a\nput name t y 5", ("put", "y"), (2, 0, (0, 2)))[0]
        self.assertEqual(state[2], (("a", 2, (5, None)),))
        state = self.told("let t new a\nput name t x 5\ndrop name t y", ("drop", "y"), (2, 0, (0, 2)))[0]
        self.assertEqual(state[2], (("a", 2, (None,)),))
        state = self.told("let t new d\nlet u new d", ("new", "d"), ("d", 0, 0))[0]
        self.assertEqual(state[2], (("d", 0, ()),) * 2)

    def test_a_record_of_another_number_is_not_taken(self):
        rows, row = "let t new a\nstrip a on\ntell ask name t go 0", ("ask", "go", 0)
        state, places = self.told(rows, row, ("a", 0, ("b", 2)))
        self.assertEqual(state[5], (1,))
        self.assertEqual(places[1][2], ("warm", 0, (("a", 1, ("a", 1)),), (1, 0, 1, 0)))
        self.assertEqual(self.told(rows, row, ("b", 1, ("b", 2)))[0][5], (1,))
        self.assertEqual(self.told(rows, row, ("a", 2, ("b", 2)))[0][5], (1,))
        state = self.told("let t new a\nput name t x 5\ntell get name t y", ("get", "y"), (2, 1, (0, 2)))[0]
        self.assertEqual(state[5], (None,))

    def test_once_its_kind_has_changed(self):
        book = book_of(program("""let t new b
            let n 0
            repeat 6
            tell ask name t go 0
            let n plus name n 1
            if alike name n 3
            turn b go a go
            else
            end
            end""", HEADS))
        at = book[1][0][0].index(("ask", "go", 0))
        self.holds(book, (0, 1, 1, 0), range(50))
        state, places = warm_on(book, (0, 1, 1, 0), started(book), (), 400)
        self.assertEqual(state[5], (2, 2, 2, 1, 1, 1))
        place = dict((row, place) for body, row, place in places)[at]
        self.assertEqual(place, ("warm", 0, (("b", 1, ("b", 1)),), (1, 4, 1, 0)))


# Kinds changed in a loop, within a call, behind a fault, and while bodies run on.
CHANGING = [
    "let t new b\nrepeat 4\ntell ask name t go 0\nturn b go a go\ntell ask name t go 0\nturn b go b go\nend",
    "let t new a\nrepeat 4\ntell ask name t go 0\ntell ask name t turns 0\nend\ntell ask name t go 0",
    """let t new a
        repeat 3
        try
        tell ask name t on 1 5
        tell ask name t falls 0
        catch v
        tell name v
        tell ask name t go 0
        end
        end""",
    """let t new c
        repeat 5
        tell ask name t go 0
        elders c a
        tell ask name t go 0
        elders c b a
        tell ask name t up 0
        put name t w new c
        drop name t w
        end""",
    """let t new c
        repeat 4
        try
        tell ask name t go 0
        strip b go
        catch v
        turn b go a go
        end
        become name t b
        let t new c
        end""",
]


class TestRuns(WarmCase):
    def test_kinds_that_change(self):
        for rows, warming in itertools.product(CHANGING, WARMINGS):
            one = program(rows, HEADS)
            book = book_of(one)
            self.holds(book, warming, range(0, 70))
            for limit in (10, 25, 60, 400):
                self.assertEqual(telling(warm_on(book, warming, started(book), (), limit)[0]), run_trees(one, limit))

    def test_programs(self):
        for number, one in enumerate(some_lively("warm", 40)):
            self.holds(book_of(one), WARMINGS[number % len(WARMINGS)], (0, 1, 2, 5, 17, 18, 40, 60, 61, 120))
        for number, one in enumerate(some_programs("warm", 100)):
            self.holds(book_of(one), WARMINGS[number % len(WARMINGS)], (0, 2, 5, 9, 30, 100))

    def test_other_books(self):
        for number, book in enumerate(some_books("warm", 60)):
            self.holds(book, WARMINGS[number % len(WARMINGS)], (0, 1, 3, 8, 9, 10, 30, 100))

    def test_each_warming(self):
        book = book_of(program(CHANGING[3], HEADS))
        for warming in itertools.product((0, 9), (1, 9), (1, 9), (0, 9)):
            self.holds(book, warming, range(0, 50, 3))


class TestRecords(WarmCase):
    """PLACES of earlier stops, with some left out or others in their stead, of which none lies."""

    def goes_on(self, source, book, warming, most):
        stops = self.stops(book, warming, range(0, most, 4))
        whole = gone_on(book, started(book), most)
        many = 0
        for at, (state, _) in enumerate(stops):
            for earlier in {0, at // 2, at}:
                places = altered(source, book, state, stops[earlier][1])
                many += places != stops[earlier][1]
                self.assertEqual(plain_lies(book, state, places), ())
                for limit in (state[0] + 1, state[0] + 6, most):
                    told = warm_on(book, warming, state, places, limit)
                    self.assertEqual(told[0], gone_on(book, state, limit))
                    self.assertEqual(told[1], places_by(warming, asks_of(book, state, limit), places))
                self.assertEqual(told[0], whole)
        return many

    def test_programs(self):
        source = random.Random("records")
        many = 0
        for number, one in enumerate(some_lively("records", 40)):
            many += self.goes_on(source, book_of(one), WARMINGS[number % len(WARMINGS)], 70)
        self.assertGreater(many, 400)

    def test_changing(self):
        source = random.Random("changing")
        for rows, warming in itertools.product(CHANGING, WARMINGS):
            self.goes_on(source, book_of(program(rows, HEADS)), warming, 60)

    def test_other_books(self):
        source = random.Random("books")
        for number, book in enumerate(some_books("records", 40)):
            self.goes_on(source, book, WARMINGS[number % len(WARMINGS)], 40)

    def test_by_one_warming_after_another(self):
        source = random.Random("warmings")
        for one in some_lively("warmings", 30):
            book = book_of(one)
            state, places = started(book), ()
            for limit in range(0, 100, 7):
                state, places = warm_on(book, source.choice(WARMINGS), state, places, limit)
                self.assertEqual(state, gone_on(book, started(book), limit))


class TestDoor(WarmCase):
    def test_what_is_no_limit(self):
        book = book_of(program(CHANGING[0], HEADS))
        for limit in NO_LIMITS:
            for taken in (NoLimit, RowError, ValueError):
                with self.assertRaises(taken):
                    warm_on(book, (0, 1, 1, 0), started(book), (), limit)
            try:
                warm_on(book, (0, 1, 1, 0), started(book), (), limit)
            except RowError as error:
                self.assertEqual([one for one in REFUSALS if isinstance(error, one)], [NoLimit])

    def test_what_is_handed_in_stays(self):
        book = book_of(program(CHANGING[2], HEADS))
        state, places = warm_on(book, (0, 2, 1, 0), started(book), (), 20)
        before = copy.deepcopy((book, state, places))
        first = warm_on(book, (0, 2, 1, 0), state, places, 60)
        self.assertEqual(warm_on(book, (0, 2, 1, 0), state, places, 60), first)
        self.assertEqual((book, state, places), before)
        self.assertNotEqual(first[1], places)

    def test_a_limit_that_is_no_more_than_steps(self):
        book = book_of(program(CHANGING[2], HEADS))
        for state, places in self.stops(book, (0, 1, 1, 0), range(0, 30)):
            for limit in range(state[0] + 1):
                self.assertEqual(warm_on(book, (0, 1, 1, 0), state, places, limit), (state, places))

    def test_a_place_that_is_new(self):
        book = book_of(program("let t new a"))
        self.assertEqual(warm_on(book, (9, 1, 1, 0), started(book), ((0, 2, NEW),), 400),
                         warm_on(book, (9, 1, 1, 0), started(book), (), 400))
