"""The promise over the whole: all ways to run a program tell the same, wherever it is stopped."""

import random
import unittest

from lively import some_lively
from makers import some_programs
from plain_states import altered
from test_programs import PROGRAM
from test_trees import program
from test_warm import CHANGING, HEADS, WARMINGS
from warmrows.changes import turned
from warmrows.hot import Hot
from warmrows.lies import lies
from warmrows.looker import is_book
from warmrows.machine import gone_on, started, telling
from warmrows.parts import EXPRESSIONS, STATEMENTS
from warmrows.programs import is_program
from warmrows.rows import book_of
from warmrows.tables import behind, found, new_fields
from warmrows.texts import read_program, show_program
from warmrows.trees import run_trees
from warmrows.warm import warm_on


class WholeCase(unittest.TestCase):
    def alike(self, one, warming, limits):
        """By trees, plain rows, warm rows and lines; how many steps were told of."""
        book = book_of(one)
        self.assertTrue(is_program(one) and is_book(book))
        state, warm, places = started(book), started(book), ()
        hot, cooled = Hot(book, warming), Hot(book, warming)
        for limit in limits:
            told = run_trees(one, limit)
            state = gone_on(book, state, limit)
            warm, places = warm_on(book, warming, warm, places, limit)
            hot.go(limit)
            cooled.go(limit)
            if limit % 5 == 0:
                cooled.cool()
            self.assertEqual(telling(state), told)
            self.assertEqual(state, gone_on(book, started(book), limit))
            self.assertEqual([warm, hot.state(), cooled.state()], [state] * 3)
            self.assertEqual(hot.places(), places)
            self.assertEqual(lies(book, state, places), ())
            if told[0] is not None:
                break
        return told[2]


class TestFourWays(WholeCase):
    def test_all_words_of_programs(self):
        words = set()
        for one in [PROGRAM] + list(some_programs("whole", 120)):
            words.update(show_program(one).split())
        for word in list(STATEMENTS) + list(EXPRESSIONS):
            self.assertIn(word, words)

    def test_programs(self):
        for number, one in enumerate([PROGRAM] + list(some_programs("whole", 120))):
            self.alike(one, WARMINGS[number % len(WARMINGS)], list(range(0, 60)) + [100, 400])

    def test_lively_programs(self):
        steps = 0
        for number, one in enumerate(some_lively("whole", 60)):
            steps += self.alike(one, WARMINGS[number % len(WARMINGS)], list(range(0, 110)) + [200, 400])
        self.assertGreater(steps, 3000)

    def test_kinds_that_change(self):
        for rows in CHANGING:
            for warming in WARMINGS:
                self.alike(program(rows, HEADS), warming, range(0, 120))

    def test_each_warming_at_its_bounds(self):
        lively = list(some_lively("bounds", 16))
        bounds = [(warm, few, cool, lay) for warm in (0, 9) for few in (1, 9) for cool in (1, 9) for lay in (0, 9)]
        for one, warming in zip(lively, bounds):
            self.alike(one, warming, range(0, 120))

    def test_a_program_that_is_written_and_read_back(self):
        for one in some_lively("read back", 20):
            self.assertEqual(read_program(show_program(one)), one)


class TestFromOneWayToAnother(WholeCase):
    def test_states_are_handed_from_one_to_the_other(self):
        source = random.Random("one way to another")
        for one in some_lively("another", 40):
            book = book_of(one)
            state, places = started(book), ()
            hot = Hot(book, source.choice(WARMINGS))
            for limit in range(0, 150, 9):
                way = source.choice(("plain", "warm", "hot", "records"))
                if way == "plain":
                    state = gone_on(book, state, limit)
                elif way == "hot":
                    hot.go(limit)
                    state = hot.state()
                    if source.random() < 0.5:
                        places = hot.places()
                else:
                    if way == "records":
                        places = altered(source, book, state, places)
                    state, places = warm_on(book, source.choice(WARMINGS), state, places, limit)
                self.assertEqual(telling(state), run_trees(one, limit))
                self.assertEqual(lies(book, state, places), ())


class TestNumbers(unittest.TestCase):
    def test_as_long_as_a_number_stays_so_does_what_is_found(self):
        changes = 0
        for one in some_lively("numbers", 60):
            book = book_of(one)
            names = ("go", "on", "at", "by")
            told = {}
            tables = []
            state = started(book)
            for limit in range(0, 120, 2):
                state = gone_on(book, state, limit)
                if state[3] not in tables:
                    tables.append(state[3])
            for table in tables:
                for row in table:
                    kind = row[0]
                    looks = [found(table, kind, deed) for deed in names]
                    looks += [behind(table, kind, other[0], deed) for other in table for deed in names]
                    looks.append(new_fields(table, kind))
                    self.assertEqual(told.setdefault((kind, row[5]), looks), looks)
            changes += len(tables) - 1
        self.assertGreater(changes, 60)

    def test_numbers_rise_for_what_is_turned(self):
        for one in some_lively("turned", 30):
            table = book_of(one)[0]
            for kind in [row[0] for row in table]:
                raised, looks, ups, news = turned(table, ("own", kind, "go", 1))
                for each in list(looks) + list(ups):
                    self.assertIn(each[0], raised)
                self.assertLessEqual(set(news), set(raised))
