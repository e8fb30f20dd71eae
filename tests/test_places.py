"""Warmings, and what asking a place does by its standing."""

import itertools
import random
import unittest

from plain_states import NEW, plain_asked
from test_errors import REFUSALS
from things import ALIENS, HOMELY
from warmrows.errors import NoWarming, RowError
from warmrows.hot import Hot
from warmrows.machine import started
from warmrows.places import asked
from warmrows.rows import book_of
from warmrows.warm import warm_on

LEAST, MOST = (0, 1, 1, 0), (9, 9, 9, 9)
W = (1, 2, 2, 0)
NO_WARMINGS = ALIENS + HOMELY + [
    (0, 1, 1), (0, 1, 1, 0, 0), (1, 2, 3), (1, 2, 3, 4, 5), [1, 2, 3, 4], "1234", (1, 2, 3, "4"), (1, 2, 3, None),
    ((1, 2, 3, 4),), (1, 2, (3, 4)), {1: 1, 2: 2, 3: 3, 4: 4}, (1, 2, 3, [4]), (10 ** 30, 1, 1, 1),
] + [
    good[:at] + (part,) + good[at + 1:]
    for good in (LEAST, (5, 5, 5, 5), MOST) for at in range(4)
    for part in (LEAST[at] - 1, 10, True, False, None, "1", ())
]
BOOK = book_of(((("a", (), ()),), (), (("do", ("new", "a")),)))


class TestWarmings(unittest.TestCase):
    def doors(self):
        yield lambda thing: asked(thing, NEW, "a", 0, 1)
        yield lambda thing: asked(thing, ("wild", 0, (), (0, 0, 0, 0)), "a", 0, None)
        yield lambda thing: asked(thing, ("warm", 0, (("a", 0, 1),), (0, 0, 0, 0)), "a", 0, 1)
        yield lambda thing: warm_on(BOOK, thing, started(BOOK), (), 400)
        yield lambda thing: warm_on(BOOK, thing, started(BOOK), (), 0)
        yield lambda thing: Hot(BOOK, thing)

    def test_what_is_no_warming(self):
        for door in self.doors():
            for thing in NO_WARMINGS:
                for taken in (NoWarming, RowError, ValueError):
                    with self.assertRaises(taken):
                        door(thing)
                try:
                    door(thing)
                except RowError as error:
                    self.assertEqual([one for one in REFUSALS if isinstance(error, one)], [NoWarming])

    def test_warmings_at_their_bounds(self):
        for door in self.doors():
            for warming in itertools.product((0, 9), (1, 9), (1, 9), (0, 9)):
                door(warming)
            door((4, 5, 6, 7))

    def test_no_warming_ahead_of_no_limit(self):
        for limit in (-1, 401, None, True, "a"):
            for thing in (None, (0, 0, 1, 0), (1, 2, 3), True):
                with self.assertRaises(NoWarming):
                    warm_on(BOOK, thing, started(BOOK), (), limit)


def cold(count, *tally):
    return ("cold", count, (), tally or (0, 0, 0, 0))


def warm(*records):
    return ("warm", 0, records, (1, 2, 3, 4))


def wild(count, *tally):
    return ("wild", count, (), tally or (0, 0, 0, 0))


ONE, TWO, THREE = ("a", 0, ("a", 1)), ("b", 3, ("a", 2)), ("c", 1, ("c", 3))


class TestPlaces(unittest.TestCase):
    def asks(self, warming, place, ask, told):
        self.assertEqual(asked(warming, place, *ask), told)
        self.assertEqual(plain_asked(warming, place, *ask), told)

    def test_cold_below_warm(self):
        self.asks((2, 1, 1, 0), NEW, ONE, (cold(1, 1, 0, 0, 0), "cold", ("a", 1)))
        self.asks((2, 1, 1, 0), cold(1, 1, 2, 3, 4), ONE, (cold(2, 2, 2, 3, 4), "cold", ("a", 1)))
        self.asks((9, 1, 1, 0), cold(8), ONE, (cold(9, 1, 0, 0, 0), "cold", ("a", 1)))

    def test_cold_at_warm_and_above(self):
        for count in (2, 3, 10, 99):
            self.asks((2, 1, 1, 0), cold(count, 5, 6, 7, 8), ONE,
                      (("warm", 0, (ONE,), (6, 6, 7, 8)), "cold", ("a", 1)))
        self.asks((0, 9, 9, 9), NEW, ONE, (("warm", 0, (ONE,), (1, 0, 0, 0)), "cold", ("a", 1)))
        self.asks((9, 9, 9, 9), cold(9), TWO, (("warm", 0, (TWO,), (1, 0, 0, 0)), "cold", ("a", 2)))

    def test_cold_without_an_answer(self):
        self.asks((2, 1, 1, 0), NEW, ("a", 0, None), (cold(1, 1, 0, 0, 0), "cold", None))
        self.asks((0, 1, 1, 0), NEW, ("a", 0, None), (cold(1, 1, 0, 0, 0), "cold", None))
        self.asks((0, 1, 1, 0), cold(7), ("a", 0, None), (cold(8, 1, 0, 0, 0), "cold", None))
        # An answer that is no, but not None.
        self.asks((0, 1, 1, 0), NEW, ("a", 0, 0), (("warm", 0, (("a", 0, 0),), (1, 0, 0, 0)), "cold", 0))

    def test_hit(self):
        for records in ((ONE,), (TWO, ONE), (ONE, TWO, THREE), (THREE, TWO, ONE)):
            self.asks(W, warm(*records), ONE, (("warm", 0, records, (1, 3, 3, 4)), "hit", ("a", 1)))
        # What is told is the record's, whatever looking would tell.
        for other in (("b", 9), None, 0):
            self.asks(W, warm(TWO, ONE), ONE[:2] + (other,), (("warm", 0, (TWO, ONE), (1, 3, 3, 4)), "hit", ("a", 1)))
        record = (3, 0, (1, 4))
        self.asks(W, warm(record), record, (("warm", 0, (record,), (1, 3, 3, 4)), "hit", (1, 4)))
        record = (("a", None), 2, ("b", 4))
        self.asks(W, warm(record), record, (("warm", 0, (record,), (1, 3, 3, 4)), "hit", ("b", 4)))
        record = ("a", 2, 0)
        self.asks(W, warm(record), ("a", 2, 5), (("warm", 0, (record,), (1, 3, 3, 4)), "hit", 0))

    def test_miss_by_number_alone(self):
        for number in (1, 2, 7):
            new = ("a", number, ("z", 9))
            for few in (1, 3, 9):
                self.asks((1, few, 2, 0), warm(ONE), new, (("warm", 0, (new,), (1, 2, 4, 4)), "miss", ("z", 9)))
                self.asks((1, few, 2, 0), warm(TWO, ONE, THREE), new,
                          (("warm", 0, (TWO, new, THREE), (1, 2, 4, 4)), "miss", ("z", 9)))
        lower = ("b", 0, ("z", 9))
        self.asks(W, warm(ONE, TWO), lower, (("warm", 0, (ONE, lower), (1, 2, 4, 4)), "miss", ("z", 9)))

    def test_miss_by_who(self):
        self.asks((1, 2, 2, 0), warm(ONE), TWO, (("warm", 0, (ONE, TWO), (1, 2, 4, 4)), "miss", ("a", 2)))
        self.asks((1, 3, 2, 0), warm(TWO, ONE), THREE, (("warm", 0, (TWO, ONE, THREE), (1, 2, 4, 4)), "miss", ("c", 3)))
        other = (("a", "b"), 0, ("a", 1))
        self.asks((1, 2, 2, 0), warm((("a", None), 0, ("a", 1))), other,
                  (("warm", 0, ((("a", None), 0, ("a", 1)), other), (1, 2, 4, 4)), "miss", ("a", 1)))

    def test_wild_at_few(self):
        self.asks((1, 1, 2, 0), warm(ONE), TWO, (wild(0, 1, 2, 4, 4), "miss", ("a", 2)))
        self.asks((1, 2, 2, 0), warm(ONE, TWO), THREE, (wild(0, 1, 2, 4, 4), "miss", ("c", 3)))
        # Above it, where they were remembered by another warming.
        self.asks((1, 1, 2, 0), warm(ONE, TWO), THREE, (wild(0, 1, 2, 4, 4), "miss", ("c", 3)))

    def test_miss_without_an_answer(self):
        for ask in (("z", 0, None), ("a", 5, None)):
            for few in (1, 2, 9):
                self.asks((1, few, 2, 0), warm(ONE, TWO), ask, (("warm", 0, (ONE, TWO), (1, 2, 4, 4)), "miss", None))

    def test_wild(self):
        for answer in (("a", 1), None):
            ask = ("a", 0, answer)
            self.asks((1, 1, 3, 0), wild(0, 1, 2, 3, 4), ask, (wild(1, 1, 2, 3, 5), "wild", answer))
            self.asks((1, 1, 3, 0), wild(1, 1, 2, 3, 4), ask, (wild(2, 1, 2, 3, 5), "wild", answer))
            self.asks((1, 1, 3, 0), wild(2, 1, 2, 3, 4), ask, (cold(0, 1, 2, 3, 5), "wild", answer))
            self.asks((0, 1, 1, 0), wild(0), ask, (cold(0, 0, 0, 0, 1), "wild", answer))
            self.asks((0, 1, 1, 0), wild(7), ask, (cold(0, 0, 0, 0, 1), "wild", answer))
            self.asks((0, 1, 9, 0), wild(8), ask, (cold(0, 0, 0, 0, 1), "wild", answer))
            self.asks((0, 1, 9, 0), wild(7), ask, (wild(8, 0, 0, 0, 1), "wild", answer))

    def test_long_rows_of_asks(self):
        source = random.Random("places")
        standings = set()
        for _ in range(400):
            warming = tuple(source.choice(choice) for choice in ((0, 1, 3, 9), (1, 2, 3, 9), (1, 2, 9), (0, 9)))
            place = NEW
            numbers = {}
            for count in range(40):
                who = source.choice(("a", "b", "c", ("a", None), 3))
                numbers[who] = numbers.get(who, 0) + source.choice((0, 0, 0, 1))
                answer = None if source.random() < 0.1 else (who, numbers[who])
                told = asked(warming, place, who, numbers[who], answer)
                self.assertEqual(told, asked(warming, place, who, numbers[who], answer))
                self.assertEqual(told, plain_asked(warming, place, who, numbers[who], answer))
                place = told[0]
                standings.add(place[0])
                self.assertEqual(sum(place[3]), count + 1)
                whos = [record[0] for record in place[2]]
                self.assertEqual(len(set(whos)), len(whos))
                self.assertLessEqual(len(whos), warming[1])
        self.assertEqual(standings, {"cold", "warm", "wild"})
