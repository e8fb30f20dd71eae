"""What is told of the bodies of books: short rows, unlike heights, and tables of piles."""

import copy
import random
import unittest

from makers import some_programs
from plain_books import PARTS, piles_along, plain_is_short, plain_look
from plain_rows import PlainMachine
from test_forms import BOOK, TABLE, book, made_plainly, plain_is_form
from test_programs import PROGRAM
from things import ANY, alien_at_each_place
from warmrows.looker import is_book, is_form, look
from warmrows.rows import book_of

M, P, G = ("mark", 0), ("push", None), ("give",)


class LookCase(unittest.TestCase):
    def told(self, rows, catches=()):
        """What is told of a body, held against what the document says of it."""
        one = book(rows, catches)
        self.assertIs(is_form(one), True, rows)
        told = look(one, 1)
        self.assertIs(is_book(one), told[0] == "table")
        self.holds(one[1][1], told)
        return told

    def holds(self, body, told):
        if told[0] == "short":
            self.assertEqual(len(told), 2)
            self.is_short_way(body, told[1])
        elif told[0] == "unlike":
            self.assertEqual(len(told), 3)
            self.are_unlike_ways(body, *told[1:])
        else:
            self.assertEqual((told[0], len(told)), ("table", 2))
            self.is_table_of(body, told[1])

    def is_short_way(self, body, way):
        piles = piles_along(body, way)
        self.assertIsNotNone(piles, way)
        self.assertEqual(len(piles), len(way), "a row ahead is short")
        self.assertTrue(plain_is_short(body, way[-1], piles[-1]))

    def are_unlike_ways(self, body, way, other):
        self.assertEqual(way[-1], other[-1])
        heights = []
        for one in (way, other):
            piles = piles_along(body, one)
            self.assertIsNotNone(piles, one)
            self.assertEqual(len(piles), len(one), "a row ahead is short")
            heights.append(len(piles[-1]))
        self.assertNotEqual(*heights)

    def is_table_of(self, body, table):
        seen = plain_look(body)
        self.assertIsNotNone(seen)
        self.assertEqual(len(table), len(body[0]))
        for at, pile in enumerate(table):
            piles = seen.get(at)
            if piles is None:
                self.assertIsNone(pile)
                continue
            self.assertFalse(any(plain_is_short(body, at, one) for one in piles))
            self.assertEqual({len(one) for one in piles}, {len(pile)})
            words = [set(words) for words in zip(*piles)]
            self.assertEqual(pile, tuple(one.pop() if len(one) == 1 else "any" for one in words))

    def short(self, way, rows, catches=()):
        self.assertEqual(self.told(rows, catches), ("short", way))

    def table(self, piles, rows, catches=()):
        self.assertEqual(self.told(rows, catches), ("table", piles))


# How many each row takes.
TAKING = [
    (("set", 1), 1), (("pop",), 1), (("get", "x"), 1), (("put", "x"), 2), (("drop", "x"), 1), (("become", "a"), 1),
    (("plus",), 2), (("minus",), 2), (("less",), 2), (("alike",), 2), (("tell",), 1), (("throw",), 1), (("give",), 1),
    (("ask", "go", 0), 1), (("ask", "go", 1), 2), (("ask", "go", 2), 3), (("ask", "go", 3), 4), (("up", "go", 0), 1),
    (("up", "go", 3), 4), (("unless", "T"), 1), (("keep", "T"), 1), (("round", "T"), 1), (("mark", 1), 0),
    (("push", 1), 0), (("push", None), 0), (("name", 1), 0), (("new", "a"), 0), (("go", "T"), 0),
    (("turn", "a", "go", "a", "go"), 0), (("strip", "a", "go"), 0), (("elders", "a", ()), 0),
]


def placed(row, to):
    return tuple(to if part == "T" else part for part in row)


class TestShort(LookCase):
    def test_each_word_is_there(self):
        self.assertEqual({row[0] for row, _ in TAKING}, set(PARTS))

    def test_by_what_it_takes(self):
        for row, takes in TAKING:
            for many in range(6):
                here = many + 1
                rows = (M,) + (P,) * many + (placed(row, here + 2), P, P, G)
                told = self.told(rows)
                if many < takes:
                    self.assertEqual(told, ("short", tuple(range(here + 1))), row)
                else:
                    self.assertNotEqual(told[0], "short", row)

    def test_by_its_first_catch(self):
        for row, takes in TAKING:
            for many in range(7):
                for height in range(4):
                    here = many + 1
                    rows = (M,) + (P,) * many + (placed(row, here + 2), P, P, P, P, G)
                    told = self.told(rows, ((here, here + 1, here + 4, height),))
                    if many < takes + height:
                        self.assertEqual(told, ("short", tuple(range(here + 1))), (row, many, height))
                    else:
                        self.assertNotEqual(told[0], "short", (row, many, height))

    def test_the_catch_that_is_not_its_first_one(self):
        rows = (M, P, ("tell",), P, P, G)
        self.short((0, 1, 2), rows, ((2, 3, 4, 1),))
        self.assertNotEqual(self.told(rows, ((2, 3, 4, 0), (2, 3, 4, 1)))[0], "short")
        self.short((0, 1, 2), rows, ((2, 3, 4, 1), (2, 3, 4, 0)))
        self.assertEqual(self.told(rows, ((2, 2, 4, 9), (3, 3, 4, 9)))[0], "table")
        self.short((0,), rows, ((0, 1, 4, 1),))
        self.short((0,), rows, ((0, 1, 4, 10 ** 30),))

    def test_what_leaves_too_little_for_a_catch_finds_enough(self):
        # keep takes one, though it may leave it.
        self.short((0, 1, 2), (M, P, ("keep", 4), P, G, P, G), ((2, 3, 6, 1),))
        self.assertNotEqual(self.told((M, P, P, ("keep", 5), P, G, P, G), ((3, 4, 7, 1),))[0], "short")
        self.short((0, 1, 2), (M, ("push", 1), ("round", 4), G, P, G, G), ((2, 3, 6, 1),))

    def test_the_first_short_row_of_its_way(self):
        self.short((0, 1), (M, ("pop",), ("pop",), P, G))
        self.short((0, 1, 2, 3), (M, P, ("pop",), ("tell",), ("plus",), P, G))
        self.short((0, 1), (M, ("plus",), ("give",)))

    def test_short_on_one_of_two_ways(self):
        # By the one way row 5 finds one, by the other none.
        rows = (M, P, P, ("unless", 5), ("pop",), ("pop",), P, G)
        self.short((0, 1, 2, 3, 4, 5), rows)
        rows = (M, P, ("unless", 4), P, ("pop",), P, G)
        self.short((0, 1, 2, 4), rows)
        rows = (M, P, ("unless", 5), P, ("pop",), P, G)
        self.assertEqual(self.told(rows)[0], "table")

    def test_short_though_other_rows_are_unlike(self):
        # Row 5 is unlike, and behind it row 7 is short by one of its ways.
        rows = (M, P, ("unless", 5), P, P, ("push", 1), ("pop",), ("tell",), P, G)
        self.short((0, 1, 2, 5, 6, 7), rows)
        # What is unlike stands behind what is short, and ahead of it.
        rows = (M, P, ("unless", 4), P, P, ("plus",), P, G)
        self.short((0, 1, 2, 4, 5), rows)

    def test_short_in_a_loops_later_round(self):
        rows = (M, P, P, P, ("mark", 1), ("pop",), ("push", 1), ("unless", 9), ("go", 4), P, G)
        told = self.told(rows)
        self.assertEqual(told[0], "short")
        self.assertEqual(told[1], (0, 1, 2, 3) + (4, 5, 6, 7, 8) * 3 + (4, 5))

    def test_by_a_way_through_a_catch(self):
        # What is caught leaves the pile cut.
        rows = (M, P, P, P, ("throw",), ("tell",), ("tell",), P, G)
        self.short((0, 1, 2, 3, 4, 5, 6), rows, ((4, 5, 5, 0),))
        self.assertEqual(self.told(rows, ((4, 5, 5, 1),))[0], "table")
        self.short((0, 1, 2, 3, 4, 5, 6), (M, P, P, P, G, ("tell",), ("tell",), P, G), ((4, 5, 5, 0),))

    def test_rows_that_no_way_leads_to_are_not_short(self):
        self.assertEqual(self.told((M, ("go", 4), ("plus",), ("plus",), P, G))[0], "table")
        self.assertEqual(self.told((M, P, ("throw",), ("pop",), P, G))[0], "table")
        self.assertEqual(self.told((M, P, G, ("pop",), P, G))[0], "table")


class TestUnlike(LookCase):
    def unlike(self, rows, catches=()):
        told = self.told(rows, catches)
        self.assertEqual(told[0], "unlike", rows)
        return told

    def test_two_ways(self):
        told = self.unlike((M, P, ("unless", 4), P, P, G))
        self.assertEqual(sorted(told[1:]), [(0, 1, 2, 3, 4), (0, 1, 2, 4)])
        self.unlike((M, P, P, ("unless", 5), ("pop",), P, G))
        self.unlike((M, P, P, ("keep", 6), P, P, G))
        self.unlike((M, P, P, ("round", 5), ("mark", 1), P, G))

    def test_in_loops(self):
        told = self.unlike((M, ("mark", 1), P, ("go", 1)))
        self.assertEqual(sorted(told[1:], key=len), [(0, 1), (0, 1, 2, 3, 1)])
        self.unlike((M, P, ("go", 0)))
        self.unlike((M, ("mark", 1), P, P, ("unless", 1), ("go", 1)))
        self.unlike((M, P, ("mark", 1), ("push", 1), ("unless", 7), ("push", 2), ("go", 2), P, G))

    def test_by_catches(self):
        # A row that is caught where another one goes on.
        self.unlike((M, ("push", 1), ("tell",), ("mark", 1), P, G), ((2, 3, 4, 0),))
        # Two rows that are caught at one place with unlike heights.
        rows = (M, P, ("mark", 1), ("pop",), ("mark", 2), P, G, G)
        self.unlike(rows, ((2, 3, 7, 1), (4, 5, 7, 0)))
        self.assertEqual(self.told(rows, ((2, 3, 7, 0), (4, 5, 7, 0)))[0], "table")

    def test_alike_heights_are_no_quarrel(self):
        self.assertEqual(self.told((M, P, ("unless", 5), ("push", 1), ("go", 6), ("new", "a"), G))[0], "table")

    def test_rows_that_no_way_leads_to_quarrel_with_none(self):
        self.assertEqual(self.told((M, ("go", 4), P, P, ("mark", 1), P, G))[0], "table")


class TestTables(LookCase):
    def test_plain(self):
        self.table(((), (), ("any",)), (M, P, G))
        self.table(((), (), ("number",), ("number", "number"), ("number",)),
                   (M, ("push", 1), ("push", -2), ("plus",), G))

    def test_what_each_word_puts(self):
        for row, takes in TAKING:
            if row[0] in ("go", "unless", "keep", "round", "throw", "give"):
                continue
            word = {"plus": "number", "minus": "number", "less": "number", "alike": "number", "new": "thing",
                    "name": "any", "get": "any", "ask": "any", "up": "any"}.get(row[0])
            if row[0] == "push":
                word = "any" if row[1] is None else "number"
            piles = self.told((M, ("new", "a")) + (P,) * takes + (row, P, G))[1]
            # What lies beneath stays.
            self.assertEqual(piles[takes + 3], ("thing",) + ((word,) if word else ()), row)

    def test_rows_that_no_way_leads_to(self):
        self.table(((), (), None, None, ()) + (("any",),), (M, ("go", 4), P, ("pop",), P, G))
        self.table(((), (), ("number",), None, None), (M, ("push", 1), ("throw",), P, G))
        self.table(((), (), ("number",), None, None), (M, ("push", 1), G, P, G))
        # A catch that holds no rows, and one that isn't a row's first.
        self.table(((), (), ("any",), None), (M, P, G, G), ((1, 1, 3, 0),))
        self.table(((), (), ("any",), None, ("any",)), (M, P, G, G, G), ((2, 3, 4, 0), (2, 3, 3, 0)))

    def test_words_by_two_ways(self):
        for first, second, word in ((("push", 1), ("push", 2), "number"), (("push", 1), P, "any"),
                                    (("new", "a"), ("new", "b"), "thing"), (("new", "a"), ("push", 0), "any"),
                                    (P, P, "any"), (("name", 0), ("new", "a"), "any")):
            rows = (M, ("new", "b"), P, ("unless", 6), first, ("go", 7), second, ("pop",), G)
            self.assertEqual(self.told(rows)[1][7], ("thing", word))

    def test_changed_in_a_loops_second_round(self):
        # What lies on the pile is a number at first, and a thing from the second round on.
        rows = (M, ("push", 1), ("mark", 1), P, ("unless", 8), ("pop",), ("new", "a"), ("go", 2), G)
        piles = self.told(rows)[1]
        self.assertEqual(piles[2:4], (("any",), ("any",)))
        self.assertEqual(piles[6:], ((), ("thing",), ("any",)))
        rows = (M, ("push", 1), ("mark", 1), P, ("unless", 8), ("pop",), ("push", 2), ("go", 2), G)
        self.assertEqual(self.told(rows)[1][2], ("number",))

    def test_two_places_that_change_one_behind_the_other(self):
        # The second round changes the upper one, the third the deeper one by it.
        rows = (M, ("push", 1), ("push", 2), ("mark", 1), P, ("unless", 12), ("tell",), ("tell",), ("new", "a"),
                ("new", "a"), ("go", 3), ("mark", 2), ("tell",), G)
        piles = self.told(rows)[1]
        self.assertEqual(piles[3], ("any", "any"))
        self.assertEqual(piles[11], None)

    def test_keep(self):
        for row, word in ((("push", 1), "number"), (P, "any"), (("new", "a"), "thing"), (("name", 0), "any")):
            rows = (M, ("push", 7), row, ("keep", 6), ("mark", 1), row, ("pop",), G)
            piles = self.told(rows)[1]
            self.assertEqual(piles[3:7], (("number", word), ("number",), ("number",), ("number", word)))
        piles = self.told((M, ("new", "a"), ("keep", 4), ("push", 1), G))[1]
        self.assertEqual(piles[2:], (("thing",), (), ("any",)))

    def test_round(self):
        rows = (M, P, ("mark", 1), ("round", 5), ("go", 2), P, G)
        self.table(((), (), ("any",), ("any",), ("number",), (), ("any",)), rows)
        rows = (M, ("push", 3), ("mark", 1), ("round", 5), ("go", 2), P, G)
        self.assertEqual(self.told(rows)[1][2:4], (("number",), ("number",)))
        rows = (M, ("new", "a"), P, ("round", 5), ("tell",), G)
        self.assertEqual(self.told(rows)[1][3:], (("thing", "any"), ("thing", "number"), ("thing",)))

    def test_unless(self):
        rows = (M, ("push", 1), ("new", "a"), ("unless", 5), ("mark", 1), G)
        self.table(((), (), ("number",), ("number", "thing"), ("number",), ("number",)), rows)

    def test_what_rows_catch(self):
        # Each row leads to its catch, even if it never throws, with the first HEIGHT of what it leaves.
        rows = (M, ("push", 1), ("new", "a"), ("push", 2), ("pop",), G, ("tell",), G)
        piles = self.told(rows, ((4, 5, 6, 1),))[1]
        self.assertEqual(piles[4:6], (("number", "thing", "number"), ("number", "thing")))
        self.assertEqual(piles[6:], (("number", "any"), ("number",)))
        for row in (("mark", 3), ("push", 1), ("name", 0), ("new", "b"), ("strip", "a", "go")):
            rows = (M, ("new", "a"), row, ("throw",), ("pop",), G)
            self.assertEqual(self.told(rows, ((2, 3, 4, 1),))[1][4], ("thing", "any"), row)
            rows = (M, ("new", "a"), row, ("throw",), G, G)
            self.assertEqual(self.told(rows, ((2, 3, 4, 0),))[1][4], ("any",), row)
        rows = (M, ("new", "a"), ("go", 3), ("throw",), ("pop",), G)
        self.assertEqual(self.told(rows, ((2, 3, 4, 1),))[1][4], ("thing", "any"))
        rows = (M, ("new", "a"), P, G, ("pop",), G)
        self.assertEqual(self.told(rows, ((3, 4, 4, 1),))[1][4], ("thing", "any"))

    def test_words_at_catches_by_several_rows(self):
        rows = (M, ("push", 1), ("mark", 1), ("pop",), ("new", "a"), ("mark", 2), ("throw",), ("tell",), G)
        self.assertEqual(self.told(rows, ((2, 3, 7, 1), (5, 6, 7, 1)))[1][7], ("any", "any"))
        self.assertEqual(self.told(rows, ((5, 6, 7, 1),))[1][7], ("thing", "any"))
        self.assertEqual(self.told(rows, ((2, 3, 7, 1),))[1][7], ("number", "any"))

    def test_catches_within_one_another_in_either_order(self):
        rows = (M, ("new", "a"), ("push", 1), ("mark", 1), ("mark", 2), ("mark", 3), ("throw",), ("pop",), G, ("tell",),
                ("tell",), G)
        inner, outer = (4, 5, 7, 1), (3, 6, 9, 2)
        piles = self.told(rows, (inner, outer))[1]
        self.assertEqual((piles[7], piles[9]), (("thing", "any"), ("thing", "number", "any")))
        # The outer one, told first, is the first of all rows.
        piles = self.told(rows, (outer, inner))[1]
        self.assertEqual((piles[7], piles[9]), (None, ("thing", "number", "any")))

    def test_loops_by_catches(self):
        rows = (M, ("mark", 1), ("push", 1), ("tell",), ("go", 1), ("go", 1))
        self.assertEqual(self.told(rows, ((2, 4, 5, 0),))[0], "unlike")
        rows = (M, ("mark", 1), ("push", 1), ("tell",), ("go", 1), ("pop",), ("go", 1))
        piles = self.told(rows, ((2, 4, 5, 0),))[1]
        self.assertEqual(piles, ((), (), (), ("number",), (), ("any",), ()))


class TestBooks(LookCase):
    def test_each_body_is_looked_at(self):
        good, bad = (M, P, G), (M, ("pop",), P, G)
        for number in range(3):
            rows = [good] * 3
            rows[number] = bad
            one = (TABLE, tuple((each, (), 0, 1) for each in rows))
            self.assertIs(is_form(one), True)
            self.assertIs(is_book(one), False)
            told = [look(one, at) for at in range(3)]
            self.assertEqual(told, [("short", (0, 1)) if at == number else ("table", ((), (), ("any",)))
                                    for at in range(3)])
        self.assertIs(is_book((TABLE, ((good, (), 0, 1),) * 3)), True)

    def test_all_words(self):
        self.assertIs(is_form(BOOK), True)
        self.holds(BOOK[1][1], look(BOOK, 1))

    def test_things_of_any_kind(self):
        for thing in ANY:
            self.assertIs(is_book(thing), False)
        good = book((M, ("push", 1), ("set", 1), P, G), ((1, 2, 3, 0),))
        self.assertIs(is_book(good), False)
        good = book((M, ("push", 1), ("set", 1), P, G), ((1, 2, 4, 0),))
        self.assertIs(is_book(good), True)
        for thing in alien_at_each_place(good):
            # A number below nought may be pushed.
            self.assertIs(is_book(thing), made_plainly(thing) and plain_is_form(thing), thing)

    def test_what_is_handed_in_stays(self):
        for one in (BOOK, book((M, P, ("go", 0))), book((M, ("pop",), P, G))):
            before = copy.deepcopy(one)
            self.assertEqual([look(one, at) for at in range(3)], [look(one, at) for at in range(3)])
            self.assertEqual(is_book(one), is_book(one))
            self.assertEqual(one, before)

    def test_books_of_programs_are_good(self):
        for one in [PROGRAM] + list(some_programs("good books", 250)):
            each = book_of(one)
            self.assertIs(is_book(each), True)
            for number, body in enumerate(each[1]):
                told = look(each, number)
                self.assertEqual(told[0], "table")
                self.is_table_of(body, told[1])

    def test_the_pile_is_as_the_table_tells(self):
        many = 0
        for one in some_programs("piles", 200):
            each = book_of(one)
            machine = PileMachine(each, 150)
            machine.told()
            many += machine.many
            self.assertEqual(machine.wrong, [])
        self.assertGreater(many, 3000)


class PileMachine(PlainMachine):
    """A machine that holds each pile against the tables."""

    def __init__(self, one, limit):
        self.tables = [look(one, number)[1] for number in range(len(one[1]))]
        self.many = 0
        self.wrong = []
        PlainMachine.__init__(self, one, limit)

    def one_row(self):
        frame = self.frames[-1]
        words = self.tables[frame["body"]][frame["row"]]
        self.many += 1
        if len(words) != len(frame["pile"]) or not all(map(fits, words, frame["pile"])):
            self.wrong.append((frame["body"], frame["row"], words, frame["pile"]))
        PlainMachine.one_row(self)


def fits(word, value):
    return word == "any" or isinstance(value, int if word == "number" else tuple)


def random_body(source):
    """A body whose rows are put together by chance; most often by form."""
    many = source.randint(3, 12)
    rows = []
    for at in range(many):
        row, takes = source.choice(TAKING)
        if source.random() < 0.35:
            row = source.choice((("push", 1), P, ("new", "a"), ("push", 2)))
        rows.append(placed(row, source.randrange(many)))
    rows[0] = ("mark", 0)
    rows[-1] = source.choice((G, ("throw",), ("go", 0)))
    for at, row in enumerate(rows):
        if row[0] in ("go", "unless", "keep", "round") and row[1] <= at and rows[row[1]][0] != "mark":
            rows[at] = (row[0], source.choice((0, min(at + 2, many - 1))))
    catches = []
    for _ in range(source.choice((0, 0, 1, 2))):
        low = source.randrange(many)
        high = source.randint(low, many)
        at = source.choice((0, source.randrange(many), high % many))
        catches.append((low, high, at, source.choice((0, 0, 1, 2))))
    return (tuple(rows), tuple(catches), 0, 3)


class TestRandomBodies(LookCase):
    def test_against_all_piles_by_all_ways(self):
        source = random.Random("random bodies")
        told = {"short": 0, "unlike": 0, "table": 0}
        while min(told.values()) < 150:
            body = random_body(source)
            one = (TABLE, (body,) * 3)
            if not is_form(one):
                continue
            say = look(one, 0)
            told[say[0]] += 1
            self.holds(body, say)
            seen = plain_look(body)
            if seen is None:
                self.assertNotEqual(say[0], "table")
                continue
            short = any(plain_is_short(body, at, pile) for at in seen for pile in seen[at])
            unlike = any(len({len(pile) for pile in seen[at]}) > 1 for at in seen)
            self.assertEqual(say[0] == "table", not short and not unlike)
            if say[0] == "unlike":
                self.assertFalse(short)
