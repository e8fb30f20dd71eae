"""What is a book by form: for each clause one that just keeps it and one that just doesn't."""

import random
import unittest

from makers import some_programs
from plain_books import plain_is_body
from test_programs import PROGRAM
from things import ALIENS, ANY, alien_at_each_place, homely_at_each_place, part_at, places, with_part
from warmrows.looker import is_book, is_form
from warmrows.rows import book_of
from warmrows.tables import is_table

TABLE = (
    ("a", (), ("a",), ("x",), (("go", 1),), 0),
    ("b", ("a",), ("b", "a"), (), (("go", 2), ("on", 1)), 3),
)
MARK, PUSH, GIVE = ("mark", 0), ("push", None), ("give",)
PLAIN = ((MARK, PUSH, GIVE), (), 0, 1)
ALL_WORDS = (
    (
        ("mark", 0), ("push", 5), ("name", 1), ("set", 2), ("pop",), ("new", "a"), ("get", "x"), ("tell",),
        ("new", "b"), ("push", None), ("put", "y"), ("new", "b"), ("drop", "y"), ("new", "a"), ("become", "b"),
        ("mark", 3), ("push", 1), ("push", 2), ("plus",), ("push", 3), ("minus",), ("push", 4), ("less",),
        ("push", 6), ("alike",), ("unless", 15), ("turn", "a", "go", "b", "on"), ("strip", "b", "on"),
        ("elders", "b", ("a",)), ("push", 7), ("keep", 32), ("push", 8), ("pop",), ("push", 3), ("mark", 4),
        ("round", 37), ("go", 34), ("new", "a"), ("ask", "go", 0), ("name", 0), ("push", 1), ("up", "go", 1),
        ("pop",), ("throw",),
    ),
    ((1, 3, 42, 0), (5, 15, 43, 0)),
    1,
    3,
)
BOOK = (TABLE, (PLAIN, ALL_WORDS, PLAIN))
ROWS_OF_WORDS = [
    ("mark", 0), ("push", 5), ("name", 1), ("set", 2), ("pop",), ("get", "x"), ("put", "y"), ("drop", "y"),
    ("become", "b"), ("new", "a"), ("plus",), ("minus",), ("less",), ("alike",), ("tell",), ("throw",), ("give",),
    ("turn", "a", "go", "b", "on"), ("strip", "b", "on"), ("elders", "b", ("a",)), ("ask", "go", 0), ("up", "go", 1),
    ("go", 3), ("unless", 3), ("keep", 3), ("round", 3),
]


def book(rows, catches=(), params=0, names=3, first=False):
    """A book in which one body is this, the first one or another."""
    body = (rows, catches, params, names)
    return (TABLE, (body, PLAIN, PLAIN)) if first else (TABLE, (PLAIN, body, PLAIN))


class FormCase(unittest.TestCase):
    def keeps(self, thing):
        self.assertIs(is_form(thing), True, thing)

    def breaks(self, thing):
        self.assertIs(is_form(thing), False, thing)
        self.assertIs(is_book(thing), False, thing)

    def row(self, row, good):
        """A book with this row in its midst."""
        one = book((MARK, row, ("mark", 1), ("mark", 2), PUSH, GIVE))
        self.assertIs(is_form(one), good, row)


class TestWhole(FormCase):
    def test_good_ones(self):
        self.keeps(BOOK)
        self.keeps((TABLE[:1], (PLAIN, PLAIN)))
        self.keeps(((TABLE[0][:4] + ((), 0),), (PLAIN,)))
        self.keeps(book_of(PROGRAM))

    def test_other_things(self):
        for thing in ANY:
            self.breaks(thing)
        self.breaks(list(BOOK))
        self.breaks(BOOK + ((),))
        self.breaks(BOOK[:1])
        self.breaks((BOOK[1], BOOK[0]))

    def test_aliens_at_each_place(self):
        for thing in alien_at_each_place(BOOK):
            # A number below nought may be pushed.
            self.assertIs(is_form(thing), made_plainly(thing) and plain_is_form(thing), thing)

    def test_things_that_are_right_elsewhere(self):
        for thing in homely_at_each_place(BOOK):
            if not isinstance(thing, tuple) or len(thing) != 2 or not is_table(thing[0]):
                self.breaks(thing)
            else:
                self.assertIs(is_form(thing), plain_is_form(thing), thing)

    def test_table(self):
        for table in ((), TABLE[1:], (TABLE[0], TABLE[1][:5] + (-1,)), (TABLE[0], TABLE[1][:2] + (("a", "b"),)
                                                                          + TABLE[1][3:]), list(TABLE)):
            self.assertFalse(is_table(table))
            self.breaks((table, BOOK[1]))

    def test_bodies_of_the_table(self):
        self.breaks((TABLE, BOOK[1][:2]))
        self.breaks((TABLE, BOOK[1][:1]))
        for body, good in ((0, False), (1, True), (2, True), (3, False), (99, False), (True, False), (-1, False)):
            table = (TABLE[0][:4] + ((("go", body),), 0), TABLE[1])
            self.assertIs(is_form((table, BOOK[1])), good, body)
        many = (TABLE, (PLAIN,) * 99)
        table = (TABLE[0][:4] + ((("go", 99),), 0), TABLE[1])
        self.breaks((table, many[1]))
        self.keeps((table, many[1] + (PLAIN,)))
        self.keeps((table, many[1] * 2))

    def test_no_bodies(self):
        bare = (TABLE[0][:4] + ((), 0),)
        self.breaks((bare, ()))
        self.breaks((bare, [PLAIN]))
        self.keeps((bare, (PLAIN,)))


def made_plainly(thing):
    if isinstance(thing, tuple):
        return all(made_plainly(part) for part in thing)
    return thing is None or isinstance(thing, (str, int))


def plain_is_form(thing):
    if not isinstance(thing, tuple) or len(thing) != 2 or not is_table(thing[0]):
        return False
    table, bodies = thing
    if not isinstance(bodies, tuple) or not bodies:
        return False
    if any(body >= len(bodies) for row in table for _, body in row[4]):
        return False
    kinds = [row[0] for row in table]
    return all(plain_is_body(body, kinds, at == 0) for at, body in enumerate(bodies))


class TestRows(FormCase):
    def test_each_word(self):
        for row in ROWS_OF_WORDS:
            self.row(row, True)

    def test_too_few_and_too_many_parts(self):
        for row in ROWS_OF_WORDS:
            self.row(row + (0,), False)
            self.row(row + (None,), False)
            self.row(row + row[1:2], len(row) == 1)
            self.row(row[:1], len(row) == 1)
            if len(row) > 1:
                self.row(row[:-1], False)
                self.row((0,) + row[1:], False)
            self.row(list(row), False)
            self.row((list(row),), False)
            self.row((row,), False)

    def test_no_word(self):
        for word in ALIENS + [None, 0, "a", "let", "do", "or", "me", "Mark", "mark ", ("mark",), "if", "end"]:
            self.row((word,), False)
            self.row((word, 0), False)
        self.row((), False)
        self.row("mark", False)
        self.row(None, False)

    def test_parts_of_other_kinds(self):
        for row in ROWS_OF_WORDS:
            for at in range(1, len(row)):
                for alien in ALIENS:
                    spoilt = row[:at] + (alien,) + row[at + 1:]
                    self.row(spoilt, row[0] == "push" and isinstance(alien, int) and not isinstance(alien, bool))

    def test_kinds(self):
        for kind, good in (("a", True), ("b", True), ("c", False), ("", False), ("go", False), (("a",), False)):
            self.row(("become", kind), good)
            self.row(("new", kind), good)
            self.row(("turn", kind, "go", "a", "go"), good)
            self.row(("turn", "a", "go", kind, "go"), good)
            self.row(("strip", kind, "go"), good)
            self.row(("elders", kind, ()), good)
            self.row(("elders", "a", (kind,)), good)
            self.row(("elders", "b", ("a", kind)), kind == "b")

    def test_elders(self):
        for elders, good in (((), True), (("a",), True), (("b",), True), (("b", "a"), True), (("a", "a"), False),
                             (["a"], False), ("a", False), (("a", "b", "a"), False), (None, False)):
            self.row(("elders", "b", elders), good)
        self.row(("elders", "b", "a", "b"), False)
        self.row(("elders", "b"), False)

    def test_names_of_deeds_and_fields(self):
        for name, good in (("a", True), ("abcdef", True), ("abcdefg", False), ("", False), ("A", False), ("a1", False),
                           (0, False), (None, False), (("a",), False)):
            for row in (("get", name), ("put", name), ("drop", name), ("strip", "a", name), ("ask", name, 0),
                        ("up", name, 0), ("turn", "a", name, "a", "go"), ("turn", "a", "go", "a", name)):
                self.row(row, good)

    def test_how_many_are_asked_with(self):
        for many, good in ((-1, False), (0, True), (1, True), (2, True), (3, True), (4, False), (True, False),
                           (False, False), (None, False), ("1", False), ((), False), (10 ** 30, False)):
            self.row(("ask", "go", many), good)
            self.row(("up", "go", many), good)

    def test_statements(self):
        for number, good in ((-1, False), (0, True), (1, True), (16, True), (17, True), (99, True), (100, False),
                             (True, False), (False, False), (None, False), ("1", False)):
            self.row(("mark", number), good)
            self.assertIs(is_form(book((("mark", number), PUSH, GIVE))), good)

    def test_numbers_of_names(self):
        for names in (1, 2, 3, 20, 21):
            for number in (-1, 0, 1, 2, 3, 19, 20, 21, 22):
                for word in ("name", "set"):
                    one = book((MARK, (word, number), PUSH, GIVE), names=names)
                    self.assertIs(is_form(one), 0 <= number < names)
        for number in (True, False, None, "a", (0,)):
            self.row(("name", number), False)
            self.row(("set", number), False)

    def test_what_is_pushed(self):
        for value, good in ((0, True), (None, True), (999999999, True), (1000000000, False), (-999999999, True),
                            (-1000000000, False), (-1, True), (True, False), (False, False), ("kind", False),
                            (("thing", 0), False), ((), False), (10 ** 40, False)):
            self.row(("push", value), good)

    def test_first_and_last_row(self):
        for row in ROWS_OF_WORDS:
            one = book((row, ("mark", 1), ("mark", 2), ("mark", 3), ("mark", 4), GIVE))
            self.assertIs(is_form(one), row[0] == "mark", row)
        for row in ROWS_OF_WORDS:
            one = book((MARK, ("mark", 1), ("mark", 2), ("mark", 3), row))
            self.assertIs(is_form(one), row[0] in ("go", "throw", "give"), row)
        self.breaks(book((MARK,)))
        self.breaks(book((GIVE,)))
        self.keeps(book((MARK, GIVE)))
        self.keeps(book((MARK, ("go", 0))))

    def test_no_rows(self):
        for rows in ((), [], None, 0, "", ((),), [MARK, PUSH, GIVE]):
            self.breaks(book(rows))

    def test_where_rows_lead(self):
        rows = (MARK, PUSH, PUSH, None, ("mark", 1), ("mark", 2), PUSH, GIVE)
        for word in ("go", "unless", "keep", "round"):
            for to in range(-2, 11):
                one = book(rows[:3] + ((word, to),) + rows[4:])
                # Its own row and those ahead are no marks but the first one; the next one is led to anyhow.
                good = to in (0, 4, 5, 6, 7) and (to != 4 or word == "go")
                self.assertIs(is_form(one), good, (word, to))
            for to in (None, True, False, "0", (0,), 10 ** 20):
                self.breaks(book(rows[:3] + ((word, to),) + rows[4:]))

    def test_a_row_that_leads_to_itself(self):
        for word in ("go", "unless", "keep", "round"):
            self.breaks(book((MARK, PUSH, (word, 2), PUSH, GIVE)))


class TestBodies(FormCase):
    def test_params_and_names(self):
        for params in range(-1, 6):
            for names in range(-1, 24):
                good = 0 <= params <= 3 and params < names <= 21
                self.assertIs(is_form(book(PLAIN[0], (), params, names)), good, (params, names))
                good = params == 0 and 0 < names <= 21
                self.assertIs(is_form(book(PLAIN[0], (), params, names, first=True)), good, (params, names))

    def test_params_and_names_of_other_kinds(self):
        for thing in (True, False, None, "1", (), [1], 10 ** 30):
            for first in (True, False):
                self.breaks(book(PLAIN[0], (), thing, 21, first))
                self.breaks(book(PLAIN[0], (), 0, thing, first))

    def test_parts_of_bodies(self):
        for first in (True, False):
            for body in (PLAIN + (0,), PLAIN[:3], PLAIN[1:], list(PLAIN), (), None, PLAIN[::-1]):
                bodies = (body, PLAIN, PLAIN) if first else (PLAIN, body, PLAIN)
                self.breaks((TABLE, bodies))

    def test_the_last_body(self):
        self.breaks((TABLE, (PLAIN, PLAIN, ((GIVE,), (), 0, 1))))
        self.breaks((TABLE, (PLAIN, PLAIN, PLAIN, ((GIVE,), (), 0, 1))))


class TestCatches(FormCase):
    ROWS = (MARK, PUSH, ("pop",), ("mark", 1), PUSH, ("pop",), PUSH, GIVE)

    def catch(self, catch, good):
        self.assertIs(is_form(book(self.ROWS, (catch,))), good, catch)

    def test_bounds(self):
        many = len(self.ROWS)
        for low in range(-1, many + 2):
            for high in range(-1, many + 2):
                # Nothing leads to row 3 but the row ahead of it.
                good = 0 <= low <= high <= many and not low <= 2 < high
                self.catch((low, high, 3, 0), good)

    def test_at(self):
        for at in range(-1, 11):
            self.catch((4, 5, at, 0), at in (0, 3, 6, 7))
            self.catch((4, 4, at, 0), at in (0, 3, 4, 5, 6, 7))
            self.catch((4, 6, at, 0), at in (0, 3, 7))
            self.catch((0, 8, at, 0), at in (0,))

    def test_at_below_the_end_is_a_mark(self):
        # Where it stands at FROM or above it, too.
        rows = (MARK, PUSH, ("go", 5), ("mark", 1), PUSH, ("mark", 2), PUSH, GIVE)
        for at in range(9):
            # Row 2 leads to 5 anyhow, row 6 to 7.
            self.assertIs(is_form(book(rows, ((2, 7, at, 0),))), at in (0, 3), at)
            self.assertIs(is_form(book(rows, ((2, 6, at, 0),))), at in (0, 3, 7), at)
            self.assertIs(is_form(book(rows, ((3, 4, at, 0),))), at in (0, 3, 5, 6, 7), at)
        rows = (MARK, PUSH, ("throw",), ("mark", 1), ("go", 5), PUSH, GIVE)
        self.keeps(book(rows, ((2, 3, 3, 0),)))
        self.keeps(book(rows, ((2, 4, 5, 0),)))
        self.keeps(book((MARK, PUSH, ("throw",), ("mark", 1), ("throw",)), ((1, 3, 3, 0), (4, 5, 3, 0))))

    def test_heights(self):
        for height, good in ((0, True), (1, True), (99, True), (10 ** 30, True), (-1, False), (True, False),
                             (False, False), (None, False), ("0", False)):
            self.catch((4, 5, 0, height), good)

    def test_truths_for_numbers(self):
        self.catch((False, 1, 6, 0), False)
        self.catch((0, True, 6, 0), False)
        self.catch((0, 1, False, 0), False)
        self.catch((0, 1, 6, False), False)
        self.catch((0, 1, 6, 0), True)

    def test_parts(self):
        for catch in ((0, 1, 6), (0, 1, 6, 0, 0), [0, 1, 6, 0], (), None, 0, "a", ((0, 1, 6, 0),)):
            self.catch(catch, False)
        for catches in ([], [(0, 1, 6, 0)], None, 0, (0, 1, 6, 0), {}):
            self.breaks(book(self.ROWS, catches))
        for alien in ALIENS:
            for at in range(4):
                good = (0, 1, 6, 0)
                self.catch(good[:at] + (alien,) + good[at + 1:], False)

    def test_each_of_several(self):
        good, bad = (0, 1, 6, 0), (0, 1, 8, 0)
        self.keeps(book(self.ROWS, (good, good, good)))
        for catches in ((good, bad), (bad, good), (good, good, bad), (good, bad, good)):
            self.breaks(book(self.ROWS, catches))


class TestLeadingTwice(FormCase):
    def test_by_its_t_and_the_next_one(self):
        for word, good in (("go", True), ("unless", False), ("keep", False), ("round", False)):
            rows = (MARK, PUSH, PUSH, (word, 4), ("mark", 1), PUSH, GIVE)
            self.assertIs(is_form(book(rows)), good, word)

    def test_by_its_t_and_its_catch(self):
        for word in ("go", "unless", "keep", "round"):
            rows = (MARK, PUSH, PUSH, (word, 6), ("mark", 1), PUSH, ("mark", 2), PUSH, GIVE)
            self.keeps(book(rows))
            self.keeps(book(rows, ((3, 4, 7, 0),)))
            self.breaks(book(rows, ((3, 4, 6, 0),)))
            # The catch that is not its first one, or not its own, leads nowhere.
            self.keeps(book(rows, ((3, 4, 7, 0), (3, 4, 6, 0))))
            self.keeps(book(rows, ((3, 3, 6, 0),)))
            self.keeps(book(rows, ((2, 3, 6, 0),)))

    def test_by_the_next_one_and_its_catch(self):
        rows = (MARK, PUSH, ("tell",), PUSH, ("pop",), PUSH, GIVE)
        self.keeps(book(rows, ((1, 2, 3, 0),)))
        self.breaks(book(rows, ((1, 2, 2, 0),)))
        self.breaks(book(rows, ((0, 3, 3, 0),)))
        self.keeps(book(rows, ((0, 3, 4, 0),)))
        for row in ROWS_OF_WORDS:
            rows = (MARK, PUSH, row, ("mark", 1), PUSH, GIVE)
            # go, too, leads there, by its T.
            self.assertIs(is_form(book(rows, ((2, 3, 3, 0),))), row[0] in ("throw", "give"), row)

    def test_catches_of_rows_that_lead_nowhere_else(self):
        self.keeps(book((MARK, PUSH, ("throw",), PUSH, GIVE), ((2, 3, 3, 0),)))
        self.keeps(book((MARK, PUSH, GIVE, PUSH, GIVE), ((2, 3, 3, 0),)))


class TestAgainstPlainForms(FormCase):
    def spoilt(self, source, one):
        """A book with one part put in the place of another of its kind, or moved a little."""
        spots = [place for place in places(one[1]) if place]
        place = source.choice(spots)
        part = part_at(one[1], place)
        if isinstance(part, int) and source.random() < 0.7:
            other = part + source.choice((-2, -1, 1, 2))
        elif isinstance(part, tuple) and part and source.random() < 0.6:
            at = source.randrange(len(part))
            other = source.choice((part[:at] + part[at + 1:], part[:at] + part[at:at + 1] + part[at:]))
        else:
            other = part_at(one[1], source.choice([spot for spot in spots if len(spot) == len(place)]))
        return (one[0], with_part(one[1], place, other))

    def test_spoilt_books(self):
        source = random.Random("spoilt books")
        told = {True: 0, False: 0}
        for one in some_programs("forms", 120):
            good = book_of(one)
            self.keeps(good)
            for _ in range(20):
                thing = self.spoilt(source, good)
                form = plain_is_form(thing)
                told[form] += 1
                self.assertIs(is_form(thing), form, thing)
        self.assertGreater(min(told.values()), 400)
