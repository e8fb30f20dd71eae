"""Hot runs: asks that are gone through in line, and what they change: nothing but the counts."""

import copy
import random
import unittest

from lively import some_lively
from makers import some_programs
from more_books import TABLE, some_books
from plain_states import PlainStates, counts_by
from test_errors import REFUSALS
from test_machine import A, B, C, END, GIVES, NO_LIMITS, THING, body, book_with
from test_trees import deeds, program
from test_warm import CHANGING, HEADS, WARMINGS
from warmrows.errors import NoLimit, RowError
from warmrows.hot import Hot
from warmrows.looker import is_book
from warmrows.machine import gone_on, started
from warmrows.rows import book_of
from warmrows.warm import warm_on

# The first ask warms, each further one is a hit that is gone through in line where it may be.
AT_ONCE = (0, 1, 1, 0)


class HotCase(unittest.TestCase):
    def holds(self, book, warming, limits):
        """State, PLACES and counts at limits, one behind the other; a lesser one changes nothing."""
        hot = Hot(book, warming)
        most = 0
        for limit in limits:
            self.assertIsNone(hot.go(limit))
            most = max(most, limit)
            self.is_at(hot, book, warming, most)
        return hot

    def is_at(self, hot, book, warming, limit):
        machine = PlainStates(book, limit)
        self.assertEqual(hot.state(), machine.state())
        self.assertEqual((hot.state(), hot.places()), warm_on(book, warming, started(book), (), limit))
        self.assertEqual(hot.counts(), counts_by(warming, machine))

    def counts(self, counts, book, warming=AT_ONCE, limit=400):
        self.assertIs(is_book(book), True)
        self.assertEqual(self.holds(book, warming, (limit,)).counts(), counts)
        hot = self.holds(book, warming, range(0, min(limit, 60)))
        hot.go(limit)
        self.is_at(hot, book, warming, limit)
        return hot

    def asks_often(self, many, first=A, ask=("ask", "go", 0), args=(), **others):
        """A book that asks one row so many times."""
        over = 8 + len(args)
        rows = (("mark", 0), ("push", many), ("mark", 1), ("round", over), first, *args, ask, ("pop",), ("go", 2), *END)
        return book_with(body(*rows), **others)


def long_body(many, *rows):
    """A body of so many rows."""
    return body(("mark", 0), *rows, *[("mark", 1)] * (many - 3 - len(rows)), *END)


class TestWhichAsks(HotCase):
    def test_hits_above_lay(self):
        for lay in range(10):
            # One ask is cold, and hits are in line from the one behind LAY on.
            self.counts((1 + lay, 11 - lay), self.asks_often(12), (0, 1, 1, lay))
            self.counts((1 + lay, 0), self.asks_often(1 + lay), (0, 1, 1, lay))
            self.counts((1 + lay, 1), self.asks_often(2 + lay), (0, 1, 1, lay))
        self.counts((4, 8), self.asks_often(12), (3, 1, 1, 0))
        self.counts((10, 2), self.asks_often(12), (9, 9, 9, 0))
        self.counts((12, 0), self.asks_often(12), (9, 9, 9, 9))

    def two_kinds(self, many):
        """A book that asks one row of a thing of a and of one of b by turns."""
        rows = (("mark", 0), A, ("set", 1), B, ("set", 2), ("push", many), ("mark", 1), ("round", 16), ("name", 1),
                ("ask", "go", 0), ("pop",), ("name", 2), ("name", 1), ("set", 2), ("set", 1), ("go", 6), *END)
        return book_with(body(*rows))

    def test_one_record_and_two(self):
        # With FEW 1 it is wild and cold by turns, and never hit.
        self.counts((8, 0), self.two_kinds(8), (0, 1, 1, 0))
        # With two records all are hit, and none in line.
        self.counts((8, 0), self.two_kinds(8), (0, 2, 1, 0))
        self.counts((8, 0), self.two_kinds(8), (0, 9, 9, 0))

    def test_a_record_that_was_the_only_one(self):
        heads = deeds("deed a go\ngive 1\nend")
        rows = """let t new a
            repeat 3
            do ask name t go 0
            become name t {}
            end"""
        self.counts((1, 2), book_of(program(rows.format("a"), heads)), (0, 2, 1, 0))
        # From the second ask on there are two, and the third one is a hit by one of them.
        book = book_of(program(rows.format("b"), heads))
        hot = self.counts((3, 0), book, (0, 2, 1, 0))
        self.assertEqual(hot.places()[1][2][3], (1, 1, 1, 0))
        self.counts((3, 0), book, (0, 1, 1, 0))

    def test_a_record_that_is_replaced(self):
        # A change of the kind makes each ask a miss, though the place has one record and many hits.
        rows = """let t new a
            repeat 4
            do ask name t go 0
            end
            let n 0
            while less name n 3
            let n plus name n 1
            do ask name t go 0
            turn a go a go
            end"""
        book = book_of(program(rows, deeds("deed a go\ngive 1\nend")))
        # Two rows: of the first one asks are cold, hit, hit, hit; of the other cold, miss, miss.
        self.counts((4, 3), book)

    def test_a_hit_once_more_behind_a_miss(self):
        rows = """let t new a
            let n 0
            while less name n 8
            let n plus name n 1
            do ask name t go 0
            if alike name n 4
            turn a go a go
            else
            end
            end"""
        book = book_of(program(rows, deeds("deed a go\ngive 1\nend")))
        self.counts((2, 6), book)
        # Its hits from ahead of the miss are counted on.
        self.counts((5, 3), book, (0, 1, 1, 3))
        self.counts((4, 4), book, (0, 1, 1, 2))

    def test_up_is_never_in_line(self):
        up = body(("mark", 0), ("name", 0), ("up", "go", 0), ("give",))
        self.counts((1 + 6, 5), self.asks_often(6, B, body3=up))
        self.counts((1 + 6, 5), self.asks_often(6, C, body3=up))

    def test_asks_that_find_none_or_are_many(self):
        for first, ask, args in ((A, ("ask", "no", 0), ()), (A, ("ask", "go", 1), (("push", 1),)),
                                 (("push", 1), ("ask", "go", 0), ())):
            rows = (("mark", 0), first, *args, ask, *END)
            self.counts((0, 0), book_with(body(*rows)))
        heads = deeds("deed a go p\ngive 1\nend")
        rows = "let t new a\nrepeat 5\ntry\ndo ask name t {}\ncatch v\nend\nend"
        self.counts((0, 0), book_of(program(rows.format("go 0"), heads)))
        self.counts((0, 0), book_of(program(rows.format("no 0"), heads)))
        self.counts((1, 4), book_of(program(rows.format("go 1 7"), heads)))


class TestWhichBodies(HotCase):
    def in_line(self, one, good):
        self.counts((1, 4) if good else (5, 0), self.asks_often(5, body1=one))

    def test_rows(self):
        for many in range(3, 30):
            self.in_line(long_body(many), many <= 20)

    def test_words_that_go_elsewhere(self):
        self.in_line(body(("mark", 0), ("push", 1), ("pop",), *END), True)
        self.in_line(body(("mark", 0), ("go", 2), *END), False)
        self.in_line(body(("mark", 0), ("push", 1), ("unless", 4), ("mark", 1), *END), False)
        self.in_line(body(("mark", 0), ("push", 1), ("keep", 4), ("push", 2), ("give",)), False)
        self.in_line(body(("mark", 0), ("push", 1), ("round", 4), ("pop",), *END), False)
        # Rows that no way leads to count, too.
        self.in_line(body(("mark", 0), *END, ("mark", 1), ("go", 3)), False)
        self.in_line(body(("mark", 0), *END, ("mark", 1), *END), True)

    def test_catches(self):
        self.in_line(body(("mark", 0), *END), True)
        self.in_line(body(("mark", 0), ("push", 1), ("tell",), *END, ("mark", 2), ("give",), catches=((1, 2, 5, 0),)),
                     False)
        # One that holds no rows is a catch, too.
        self.in_line(body(("mark", 0), *END, catches=((1, 1, 0, 0),)), False)

    def test_all_other_words(self):
        one = body(("mark", 0), ("name", 0), ("set", 1), ("name", 1), ("push", 2), ("put", "x"), ("name", 1),
                   ("get", "x"), ("push", 1), ("plus",), ("tell",), ("name", 0), ("become", "a"),
                   ("turn", "c", "go", "c", "go"), *END)
        self.in_line(one, True)
        one = body(("mark", 0), ("strip", "b", "go"), ("turn", "b", "go", "a", "go"), ("new", "b"), ("tell",), *END)
        self.in_line(one, True)
        one = body(("mark", 0), ("elders", "c", ("b",)), ("name", 0), ("drop", "y"), *END)
        self.in_line(one, True)

    def test_params(self):
        one = body(("mark", 0), ("name", 1), ("set", 3), ("name", 2), ("tell",), ("name", 3), ("give",), params=2,
                   names=5)
        args = (("push", 6), ("push", 7))
        self.counts((1, 5), self.asks_often(6, A, ("ask", "on", 2), args, body2=one))


LINES = """let t new c
    let n 0
    while less name n 6
    let n plus name n 1
    tell plus name n ask name t go 1 name n
    end"""
WITHIN = deeds("""deed a go p
    let q plus name p 100
    tell name q
    give plus name q ask me on 2 name p 5
    end
    deed a on p q
    tell plus name p name q
    give plus name p 1
    end""")


class TestLines(HotCase):
    def test_lines_within_lines(self):
        book = book_of(program(LINES, WITHIN))
        self.counts((2, 10), book)
        self.counts((4, 8), book, (0, 1, 1, 1))

    def test_a_stop_in_the_midst_is_told_as_frames(self):
        book = book_of(program(LINES, WITHIN))
        rows, inner = book[1][0][0], book[1][1][0]
        asks = rows.index(("ask", "go", 1)), inner.index(("ask", "on", 2))
        hot = Hot(book, AT_ONCE)
        seen = []
        for limit in range(400):
            hot.go(limit)
            if len(hot.state()[1]) == 3 and hot.counts()[1] >= 2:
                seen.append(hot.state()[1])
        self.assertEqual(len(seen), 15)
        number = 2
        self.assertEqual(seen[2], (
            (0, None, asks[0], (None, THING, number), (number,)),
            (1, "a", asks[1], (THING, number, number + 100), (number + 100,)),
            (2, "a", 6, (THING, number, 5), ()),
        ))

    def test_faults_in_lines(self):
        heads = deeds("""deed a go p
            tell name p
            give ask me on 1 name p
            end
            deed a on p
            tell 7
            give minus 3 get me w
            end""")
        rows = """let t new a
            repeat 3
            put name t w 1
            do ask name t go 1 4
            drop name t w
            try
            do ask name t go 1 5
            catch v
            tell name v
            end
            end
            do ask name t go 1 6"""
        book = book_of(program(rows, heads))
        # Of RUN's three rows two are hit twice; the inner one is hit six times.
        hot = self.counts((4, 10), book)
        self.assertEqual(hot.state()[6], ("fault", "nofield", ((0, 9), (1, 2), (2, 2))))
        self.assertEqual(hot.state()[5].count("nofield"), 3)

    def test_a_fault_behind_several_lines(self):
        heads = deeds("""deed a go p
            give ask me on 1 name p
            end
            deed a on p
            tell 7
            throw name p
            end""")
        rows = """let t new a
            let n 0
            while less name n 5
            let n plus name n 1
            try
            do ask name t go 1 name n
            catch v
            end
            end
            do ask name t go 1 9"""
        book = book_of(program(rows, heads))
        hot = self.counts((3, 9), book)
        self.assertEqual(hot.state()[6], ("fault", 9, ((0, 7), (1, 1), (2, 2))))

    def test_deep_in_lines(self):
        again = body(("mark", 0), ("mark", 3), ("name", 0), ("ask", "go", 0), ("give",))
        book = book_with(body(("mark", 0), A, ("ask", "go", 0), ("give",)), body1=again)
        # RUN's ask and the first one of the body are cold; the twelfth frame ends deep.
        hot = self.counts((2, 9), book)
        self.assertEqual(hot.state()[6], ("fault", "deep", ((0, 0),) + ((1, 3),) * 11))

    def test_many_in_lines(self):
        asks = body(("mark", 0), ("mark", 2), ("name", 0), ("push", 1), ("ask", "go", 1), ("give",), params=1)
        rows = (("mark", 0), ("push", 3), ("mark", 1), ("round", 12), A, ("push", 1), ("ask", "on", 1), ("pop",),
                ("go", 2), ("tell",), ("go", 2), ("mark", 9), *END)
        book = book_with(body(*rows, catches=((6, 7, 9, 1),)), body2=asks)
        hot = self.counts((1, 2), book)
        self.assertEqual(hot.state()[5], ("many",) * 3)

    def test_names_and_piles_beneath_stay(self):
        # The asking body has names and a pile of its own, in line itself.
        inner = body(("mark", 0), ("push", 50), ("set", 1), ("push", 51), ("mark", 1), ("push", 52), ("give",), names=9)
        outer = body(("mark", 0), ("push", 60), ("name", 1), ("set", 2), ("push", 61), ("name", 0), ("ask", "go", 0),
                     ("tell",), ("tell",), ("tell",), ("name", 2), ("give",), params=1)
        book = self.asks_often(4, A, ("ask", "on", 1), (("push", 5),), body1=inner, body2=outer)
        hot = self.counts((2, 6), book)
        self.assertEqual(hot.state()[5], (52, 61, 60) * 4)

    def test_up_from_a_line(self):
        # In line the home is that of the body that is gone through.
        up = body(("mark", 0), ("name", 0), ("push", 1), ("up", "on", 1), ("give",), params=1)
        book = self.asks_often(4, C, ("ask", "on", 1), (("push", 5),), body4=up)
        self.counts((1 + 4, 3), book)


class TestCooling(HotCase):
    def test_cool_at_any_stop(self):
        book = book_of(program(LINES, WITHIN))
        whole = gone_on(book, started(book), 400)
        for limit in range(whole[0] + 2):
            hot = Hot(book, AT_ONCE)
            hot.go(limit)
            state, counts = hot.state(), hot.counts()
            self.assertIsNone(hot.cool())
            self.assertEqual((hot.state(), hot.places(), hot.counts()), (state, (), counts))
            self.goes_on_cooled(hot, book, AT_ONCE, limit)
            self.assertEqual(hot.state(), whole)

    def goes_on_cooled(self, hot, book, warming, limit):
        """What was cooled at a limit goes on as warm rows without PLACES do, and counts as if all were new."""
        state, (frames, lines) = hot.state(), hot.counts()
        before = PlainStates(book, limit)
        before.state()
        for further in (limit, limit + 1, limit + 2, limit + 5, 400):
            if further > 400:
                continue
            hot.go(further)
            self.assertEqual((hot.state(), hot.places()), warm_on(book, warming, state, (), further))
            machine = PlainStates(book, further)
            machine.state()
            self.assertEqual(hot.counts(), counts_by(warming, machine, (len(before.asks),)))

    def test_programs(self):
        for number, one in enumerate(some_lively("cooling", 40)):
            book = book_of(one)
            warming = WARMINGS[number % len(WARMINGS)] if number % 2 else AT_ONCE
            for limit in (0, 7, 19, 40, 63):
                hot = Hot(book, warming)
                hot.go(limit)
                state, counts = hot.state(), hot.counts()
                hot.cool()
                self.assertEqual((hot.state(), hot.places(), hot.counts()), (state, (), counts))
                self.goes_on_cooled(hot, book, warming, limit)

    def test_cooled_again_and_again(self):
        book = book_of(program(LINES, WITHIN))
        hot = Hot(book, AT_ONCE)
        for limit in range(80):
            hot.go(limit)
            hot.cool()
            hot.cool()
            self.assertEqual(hot.state(), gone_on(book, started(book), limit))
            self.assertEqual(hot.places(), ())
        self.assertEqual(hot.counts(), (12, 0))

    def test_cooled_at_the_start_and_at_the_end(self):
        book = book_of(program(LINES, WITHIN))
        hot = Hot(book, AT_ONCE)
        hot.cool()
        self.assertEqual((hot.state(), hot.places(), hot.counts()), (started(book), (), (0, 0)))
        hot.go(400)
        ended = hot.state()
        hot.cool()
        self.assertEqual((hot.state(), hot.places(), hot.counts()), (ended, (), (2, 10)))
        hot.go(400)
        self.assertEqual((hot.state(), hot.places(), hot.counts()), (ended, (), (2, 10)))


class TestDoor(HotCase):
    def test_at_the_start(self):
        book = book_of(program(LINES, WITHIN))
        hot = Hot(book, AT_ONCE)
        self.assertEqual((hot.state(), hot.places(), hot.counts()), (started(book), (), (0, 0)))

    def test_what_is_no_limit(self):
        book = book_of(program(LINES, WITHIN))
        hot = Hot(book, AT_ONCE)
        for limit in (0, 20, 400):
            hot.go(limit)
            before = (hot.state(), hot.places(), hot.counts())
            for thing in NO_LIMITS:
                for taken in (NoLimit, RowError, ValueError):
                    with self.assertRaises(taken):
                        hot.go(thing)
                try:
                    hot.go(thing)
                except RowError as error:
                    self.assertEqual([one for one in REFUSALS if isinstance(error, one)], [NoLimit])
                self.assertEqual((hot.state(), hot.places(), hot.counts()), before)

    def test_lesser_limits(self):
        book = book_of(program(LINES, WITHIN))
        self.holds(book, AT_ONCE, (30, 0, 29, 31, 30, 5, 44, 43, 400, 0, 399))

    def test_two_by_turns(self):
        books = [book_of(program(LINES, WITHIN)), book_of(program(CHANGING[1], HEADS))]
        hots = [Hot(books[0], AT_ONCE), Hot(books[0], (0, 2, 1, 1)), Hot(books[1], AT_ONCE), Hot(books[1], AT_ONCE)]
        for limit in range(0, 60, 3):
            for hot in hots:
                hot.go(limit)
            self.is_at(hots[0], books[0], AT_ONCE, limit)
            self.is_at(hots[1], books[0], (0, 2, 1, 1), limit)
            self.is_at(hots[2], books[1], AT_ONCE, limit)
            self.is_at(hots[3], books[1], AT_ONCE, limit)
        hots[0].cool()
        self.is_at(hots[3], books[1], AT_ONCE, 57)
        self.is_at(hots[1], books[0], (0, 2, 1, 1), 57)

    def test_what_is_handed_in_and_told_stays(self):
        book = book_of(program(LINES, WITHIN))
        before = copy.deepcopy(book)
        hot = Hot(book, AT_ONCE)
        hot.go(30)
        told = (hot.state(), hot.places(), hot.counts())
        kept = copy.deepcopy(told)
        self.assertEqual((hot.state(), hot.places(), hot.counts()), told)
        hot.go(60)
        hot.cool()
        self.assertEqual(told, kept)
        self.assertEqual(book, before)
        self.assertEqual(GIVES[1], ((("mark", 0), ("push", 11), ("give",)), (), 0, 4))
        self.assertEqual(TABLE[0][0], "a")


class TestRuns(HotCase):
    def test_programs(self):
        frames = lines = 0
        for number, one in enumerate(some_lively("hot", 60)):
            warming = WARMINGS[number % len(WARMINGS)] if number % 3 == 0 else AT_ONCE
            counts = self.holds(book_of(one), warming, list(range(0, 50)) + [70, 71, 120, 400]).counts()
            frames, lines = frames + counts[0], lines + counts[1]
        self.assertGreater(frames, 200)
        self.assertGreater(lines, 200)

    def test_more_programs(self):
        for number, one in enumerate(some_programs("hot", 100)):
            self.holds(book_of(one), WARMINGS[number % len(WARMINGS)], (0, 1, 5, 9, 10, 20, 40, 400))
        for rows in CHANGING:
            for warming in WARMINGS:
                self.holds(book_of(program(rows, HEADS)), warming, range(0, 60))

    def test_other_books(self):
        source = random.Random("hot books")
        for book in some_books("hot", 60):
            warming = source.choice([AT_ONCE, (0, 3, 1, 0)] + WARMINGS)
            self.holds(book, warming, (0, 1, 2, 5, 9, 20, 21, 22, 60, 400))
