"""What holds of all doors alike: refusals by their own names, told tuples, nothing handed in changed."""

import copy
import unittest

from things import CHAIN, ELDERS_QUARREL, SEVEN, THREE_QUARREL, TWO_QUARREL
from test_errors import REFUSALS
from test_programs import PROGRAM
from test_shapes import SHAPES
from test_tables import TABLE
from test_texts import TEXT
from test_trees import program
from test_warm import CHANGING, HEADS
from warmrows.changes import back, changed, turned
from warmrows.errors import NoChange, NoField, NoKind, NoLimit, NoOrder, NoShape, NoText, NoWarming, RowError
from warmrows.families import above, beneath, is_family
from warmrows.hot import Hot
from warmrows.lies import lies
from warmrows.looker import is_book, is_form, look
from warmrows.machine import asks_of, gone_on, started, telling
from warmrows.orders import order_of, rows_for
from warmrows.places import asked
from warmrows.programs import is_program, table_of
from warmrows.rows import book_of
from warmrows.shapes import fields_at, shape_by
from warmrows.tables import behind, found, is_table, new_fields
from warmrows.texts import read_program, show_program
from warmrows.trees import run_trees
from warmrows.warm import warm_on

BOOK = book_of(program(CHANGING[3], HEADS))
# Lists in the place of tuples, and rows that come short.
SPOILT = (BOOK[0], ([list(row) for row in BOOK[1][0][0]],) + BOOK[1][1:])
SHORT = (BOOK[0], (((("mark", 0), ("pop",), ("push", None), ("give",)), (), 0, 1),) * len(BOOK[1]))
UNLIKE = (BOOK[0], (((("mark", 0), ("push", None), ("go", 0)), (), 0, 1),) * len(BOOK[1]))
WARMING = (0, 2, 1, 0)
STATE, PLACES = warm_on(BOOK, WARMING, started(BOOK), (), 25)
PLACE = ("warm", 0, (("a", 0, ("a", 1)), ("b", 1, ("a", 1))), (1, 2, 3, 4))

REFUSED = [
    (NoKind, above, (CHAIN, ["a"])),
    (NoKind, beneath, (CHAIN, {"a": "a"})),
    (NoKind, order_of, (CHAIN, ["a", ["b"]])),
    (NoKind, rows_for, (CHAIN, ["a"])),
    (NoKind, rows_for, (ELDERS_QUARREL, "zz")),
    (NoKind, found, (TABLE, ["a"], "go")),
    (NoKind, behind, (TABLE, {"a": []}, ["a"], "go")),
    (NoKind, new_fields, (TABLE, ["a"])),
    (NoOrder, rows_for, (ELDERS_QUARREL, "d")),
    (NoChange, changed, (TABLE, ["own", "a", ["go"], 1])),
    (NoChange, changed, (TABLE, ("own", "a", "none", None))),
    (NoChange, turned, (TABLE, ("elders", "a", ["b"]))),
    (NoChange, turned, (TABLE, ("elders", "a", ("c",)))),
    (NoChange, back, (TABLE, {"a": [1]})),
    (NoChange, back, (TABLE, ("elders", "c", ("o", "a")))),
    (NoShape, fields_at, (SHAPES, [1])),
    (NoShape, shape_by, (SHAPES, {1: [1]}, "put", "x")),
    (NoField, shape_by, (SHAPES, 1, "put", "x")),
    (NoField, shape_by, (SHAPES, 1, "drop", "y")),
    (NoText, read_program, (["kind a 0", ["run"], "end"],)),
    (NoText, read_program, ({"kind": ["a"]},)),
    (NoText, read_program, (TEXT + "\n",)),
    (NoLimit, run_trees, (PROGRAM, -1)),
    (NoLimit, run_trees, (PROGRAM, [1])),
    (NoLimit, run_trees, (PROGRAM, {1: [1]})),
    (NoLimit, gone_on, (BOOK, STATE, [1])),
    (NoLimit, gone_on, (BOOK, STATE, 401)),
    (NoLimit, asks_of, (BOOK, STATE, {1: [1]})),
    (NoLimit, asks_of, (BOOK, STATE, -1)),
    (NoLimit, warm_on, (BOOK, WARMING, STATE, PLACES, [1])),
    (NoLimit, warm_on, (BOOK, WARMING, STATE, PLACES, 401)),
    (NoWarming, warm_on, (BOOK, [0, 1, 1, 0], STATE, PLACES, [1])),
    (NoWarming, warm_on, (BOOK, (0, 0, 1, 0), STATE, PLACES, 400)),
    (NoWarming, asked, ([0, 1, [1], 0], PLACE, "a", 0, None)),
    (NoWarming, asked, ((0, 1, 1, 10), PLACE, "a", 0, None)),
    (NoWarming, Hot, (BOOK, {0: [1]})),
    (NoWarming, Hot, (BOOK, (10, 1, 1, 0))),
]

TOLD = [
    (above, (SEVEN, "g")),
    (beneath, (SEVEN, "a")),
    (order_of, (SEVEN, "g")),
    (order_of, (TWO_QUARREL, "z")),
    (order_of, (THREE_QUARREL, "z")),
    (rows_for, (SEVEN, "g")),
    (found, (TABLE, "c", "go")),
    (found, (TABLE, "c", "none")),
    (behind, (TABLE, "c", "a", "go")),
    (behind, (TABLE, "c", ["a"], "go")),
    (new_fields, (TABLE, "c")),
    (is_family, (SEVEN,)),
    (is_family, ([["a", []], {"a": [1]}],)),
    (is_family, ((["a", []], {"a": [1]}),)),
    (is_table, (TABLE,)),
    (is_table, ([list(row) for row in TABLE],)),
    (is_table, (tuple(list(row) for row in TABLE),)),
    (changed, (TABLE, ("own", "a", "go", None))),
    (changed, (TABLE, ("own", "a", "aa", 1))),
    (changed, (TABLE, ("elders", "c", ("b", "a")))),
    (turned, (TABLE, ("own", "o", "go", 9))),
    (turned, (TABLE, ("elders", "c", ()))),
    (back, (TABLE, ("own", "o", "go", 9))),
    (back, (TABLE, ("elders", "c", ()))),
    (fields_at, (SHAPES, 5)),
    (shape_by, (SHAPES, 5, "drop", "x")),
    (shape_by, (SHAPES, 1, "put", "y")),
    (is_program, (PROGRAM,)),
    (is_program, ([list(part) for part in PROGRAM],)),
    (is_program, (PROGRAM[:2] + ([["tell", [1]]],),)),
    (table_of, (PROGRAM,)),
    (show_program, (PROGRAM,)),
    (read_program, (TEXT,)),
    (run_trees, (PROGRAM, 0)),
    (run_trees, (PROGRAM, 9)),
    (run_trees, (PROGRAM, 400)),
    (book_of, (PROGRAM,)),
    (is_form, (BOOK,)),
    (is_form, (SPOILT,)),
    (is_form, (list(BOOK),)),
    (is_book, (BOOK,)),
    (is_book, (SHORT,)),
    (is_book, (SPOILT,)),
    (look, (BOOK, 0)),
    (look, (BOOK, 3)),
    (look, (SHORT, 0)),
    (look, (UNLIKE, 0)),
    (started, (BOOK,)),
    (gone_on, (BOOK, started(BOOK), 25)),
    (gone_on, (BOOK, STATE, 60)),
    (gone_on, (BOOK, STATE, 10)),
    (telling, (STATE,)),
    (asks_of, (BOOK, STATE, 60)),
    (asked, (WARMING, PLACE, "a", 0, None)),
    (asked, (WARMING, PLACE, "a", 1, ("a", 2))),
    (asked, (WARMING, PLACE, "c", 1, ("a", 2))),
    (asked, (WARMING, ("cold", 0, (), (0, 0, 0, 0)), "c", 1, ("a", 2))),
    (asked, (WARMING, ("wild", 0, (), (0, 0, 0, 0)), "c", 1, None)),
    (warm_on, (BOOK, WARMING, STATE, PLACES, 60)),
    (warm_on, (BOOK, WARMING, STATE, (), 60)),
    (warm_on, (BOOK, WARMING, STATE, PLACES, 10)),
    (lies, (BOOK, STATE, PLACES)),
    (lies, (BOOK, started(BOOK), PLACES)),
]


def made_of_tuples(thing):
    if isinstance(thing, tuple):
        return all(made_of_tuples(part) for part in thing)
    return thing is None or isinstance(thing, (str, int))


class TestAllDoors(unittest.TestCase):
    def test_refusals_are_caught_by_their_own_names(self):
        for refusal, door, handed in REFUSED:
            for taken in (refusal, RowError, ValueError):
                with self.subTest(door=door, handed=handed, taken=taken):
                    with self.assertRaises(taken):
                        door(*handed)

    def test_refusals_are_caught_by_no_other_name(self):
        for refusal, door, handed in REFUSED:
            try:
                door(*handed)
            except RowError as error:
                self.assertEqual([one for one in REFUSALS if isinstance(error, one)], [refusal])

    def test_what_is_handed_in_stays_as_it_was(self):
        doors = [(door, handed) for _, door, handed in REFUSED] + TOLD
        for door, handed in doors:
            before = copy.deepcopy(handed)
            try:
                door(*handed)
            except RowError:
                pass
            self.assertEqual(handed, before)

    def test_what_is_told_is_made_of_tuples(self):
        for door, handed in TOLD:
            with self.subTest(door=door, handed=handed):
                self.assertTrue(made_of_tuples(door(*handed)))
                self.assertEqual(door(*handed), door(*handed))
