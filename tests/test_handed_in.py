"""What holds of all doors alike: refusals by their own names, told tuples, nothing handed in changed."""

import copy
import unittest

from things import CHAIN, ELDERS_QUARREL, SEVEN, THREE_QUARREL, TWO_QUARREL
from test_errors import REFUSALS
from test_programs import PROGRAM
from test_shapes import SHAPES
from test_tables import TABLE
from test_texts import TEXT
from warmrows.changes import back, changed, turned
from warmrows.errors import NoChange, NoField, NoKind, NoLimit, NoOrder, NoShape, NoText, RowError
from warmrows.families import above, beneath, is_family
from warmrows.orders import order_of, rows_for
from warmrows.programs import is_program, table_of
from warmrows.rows import book_of
from warmrows.shapes import fields_at, shape_by
from warmrows.tables import behind, found, is_table, new_fields
from warmrows.texts import read_program, show_program
from warmrows.trees import run_trees

REFUSED = [
    (NoKind, above, (CHAIN, ["a"])),
    (NoKind, beneath, (CHAIN, {"a": "a"})),
    (NoKind, order_of, (CHAIN, ["a", ["b"]])),
    (NoKind, rows_for, (CHAIN, ["a"])),
    (NoKind, rows_for, (ELDERS_QUARREL, "zz")),
    (NoKind, found, (TABLE, ["a"], "go")),
    (NoKind, behind, (TABLE, {"a": []}, ["a"], "go")),
    (NoKind, new_fields, (TABLE, ["a"])),
    (NoOrder, rows_for, (ELDERS_QUARREL, "d")),
    (NoChange, changed, (TABLE, ["own", "a", ["go"], 1])),
    (NoChange, changed, (TABLE, ("own", "a", "none", None))),
    (NoChange, turned, (TABLE, ("elders", "a", ["b"]))),
    (NoChange, turned, (TABLE, ("elders", "a", ("c",)))),
    (NoChange, back, (TABLE, {"a": [1]})),
    (NoChange, back, (TABLE, ("elders", "c", ("o", "a")))),
    (NoShape, fields_at, (SHAPES, [1])),
    (NoShape, shape_by, (SHAPES, {1: [1]}, "put", "x")),
    (NoField, shape_by, (SHAPES, 1, "put", "x")),
    (NoField, shape_by, (SHAPES, 1, "drop", "y")),
    (NoText, read_program, (["kind a 0", ["run"], "end"],)),
    (NoText, read_program, ({"kind": ["a"]},)),
    (NoText, read_program, (TEXT + "\n",)),
    (NoLimit, run_trees, (PROGRAM, -1)),
    (NoLimit, run_trees, (PROGRAM, [1])),
    (NoLimit, run_trees, (PROGRAM, {1: [1]})),
]

TOLD = [
    (above, (SEVEN, "g")),
    (beneath, (SEVEN, "a")),
    (order_of, (SEVEN, "g")),
    (order_of, (TWO_QUARREL, "z")),
    (order_of, (THREE_QUARREL, "z")),
    (rows_for, (SEVEN, "g")),
    (found, (TABLE, "c", "go")),
    (found, (TABLE, "c", "none")),
    (behind, (TABLE, "c", "a", "go")),
    (behind, (TABLE, "c", ["a"], "go")),
    (new_fields, (TABLE, "c")),
    (is_family, (SEVEN,)),
    (is_family, ([["a", []], {"a": [1]}],)),
    (is_family, ((["a", []], {"a": [1]}),)),
    (is_table, (TABLE,)),
    (is_table, ([list(row) for row in TABLE],)),
    (is_table, (tuple(list(row) for row in TABLE),)),
    (changed, (TABLE, ("own", "a", "go", None))),
    (changed, (TABLE, ("own", "a", "aa", 1))),
    (changed, (TABLE, ("elders", "c", ("b", "a")))),
    (turned, (TABLE, ("own", "o", "go", 9))),
    (turned, (TABLE, ("elders", "c", ()))),
    (back, (TABLE, ("own", "o", "go", 9))),
    (back, (TABLE, ("elders", "c", ()))),
    (fields_at, (SHAPES, 5)),
    (shape_by, (SHAPES, 5, "drop", "x")),
    (shape_by, (SHAPES, 1, "put", "y")),
    (is_program, (PROGRAM,)),
    (is_program, ([list(part) for part in PROGRAM],)),
    (is_program, (PROGRAM[:2] + ([["tell", [1]]],),)),
    (table_of, (PROGRAM,)),
    (show_program, (PROGRAM,)),
    (read_program, (TEXT,)),
    (run_trees, (PROGRAM, 0)),
    (run_trees, (PROGRAM, 9)),
    (run_trees, (PROGRAM, 400)),
    (book_of, (PROGRAM,)),
]


def made_of_tuples(thing):
    if isinstance(thing, tuple):
        return all(made_of_tuples(part) for part in thing)
    return thing is None or isinstance(thing, (str, int))


class TestAllDoors(unittest.TestCase):
    def test_refusals_are_caught_by_their_own_names(self):
        for refusal, door, handed in REFUSED:
            for taken in (refusal, RowError, ValueError):
                with self.subTest(door=door, handed=handed, taken=taken):
                    with self.assertRaises(taken):
                        door(*handed)

    def test_refusals_are_caught_by_no_other_name(self):
        for refusal, door, handed in REFUSED:
            try:
                door(*handed)
            except RowError as error:
                self.assertEqual([one for one in REFUSALS if isinstance(error, one)], [refusal])

    def test_what_is_handed_in_stays_as_it_was(self):
        doors = [(door, handed) for _, door, handed in REFUSED] + TOLD
        for door, handed in doors:
            before = copy.deepcopy(handed)
            try:
                door(*handed)
            except RowError:
                pass
            self.assertEqual(handed, before)

    def test_what_is_told_is_made_of_tuples(self):
        for door, handed in TOLD:
            with self.subTest(door=door, handed=handed):
                self.assertTrue(made_of_tuples(door(*handed)))
                self.assertEqual(door(*handed), door(*handed))
