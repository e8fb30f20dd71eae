import unittest

from things import (
    ALIENS, ANY, ELDERS_QUARREL, alien_at_each_place, homely_at_each_place, plain_is_family, plain_is_name,
    some_families,
)
from warmrows.errors import NoKind
from warmrows.orders import order_of
from warmrows.tables import behind, found, is_table, new_fields

TABLE = (
    ("o", (), ("o",), ("x", "y"), (("go", 1), ("stay", 2)), 0),
    ("a", ("o",), ("a", "o"), ("y", "z"), (("go", 3),), 4),
    ("b", ("o",), ("b", "o"), (), (("end", 5), ("stay", 99)), 1),
    ("c", ("a", "b"), ("c", "a", "b", "o"), ("w", "x"), (("own", 7),), 2),
)
LONE = (("a", (), ("a",), (), (), 0),)
# d stands ahead of its elders.
BEHIND = (
    ("d", ("e", "f"), ("d", "e", "f"), ("x",), (), 0),
    ("e", (), ("e",), ("y",), (("go", 1),), 0),
    ("f", (), ("f",), ("z",), (("go", 2),), 0),
)


def with_row(at, part, value):
    row = TABLE[at]
    return TABLE[:at] + (row[:part] + (value,) + row[part + 1:],) + TABLE[at + 1:]


def table_from(family):
    rows = []
    for at, (kind, elders) in enumerate(family):
        told = order_of(family, kind)
        rows.append((kind, elders, told[1], (), ((("go", 1 + at),) if at % 2 else ()), at))
    return tuple(rows)


def plain_is_table(thing):
    """The point's words, for things made of tuples, texts, numbers and None."""
    if not isinstance(thing, tuple) or any(not isinstance(row, tuple) or len(row) != 6 for row in thing):
        return False
    family = tuple(row[:2] for row in thing)
    if not plain_is_family(family):
        return False
    for kind, _, order, fields, deeds, number in thing:
        if ("order", order) != order_of(family, kind):
            return False
        if not isinstance(fields, tuple) or len(fields) > 3 or not all(map(plain_is_name, fields)):
            return False
        if any(fields.count(field) > 1 for field in fields) or not isinstance(deeds, tuple):
            return False
        if any(not isinstance(pair, tuple) or len(pair) != 2 or not plain_is_name(pair[0]) for pair in deeds):
            return False
        if any(not isinstance(body, int) or body not in range(1, 100) for _, body in deeds):
            return False
        if [name for name, _ in deeds] != sorted({name for name, _ in deeds}):
            return False
        if not isinstance(number, int) or number < 0:
            return False
    return True


class TestIsTable(unittest.TestCase):
    def holds(self, thing, truth):
        with self.subTest(thing=repr(thing)[:300]):
            self.assertIs(is_table(thing), truth)

    def test_tables(self):
        for table in (TABLE, LONE, BEHIND):
            self.holds(table, True)
        self.holds((), False)

    def test_families_within(self):
        rows = tuple((letter, (), (letter,), (), (), 0) for letter in "abcdefgh")
        self.holds(rows[:7], True)
        self.holds(rows, False)
        self.holds(LONE + LONE, False)
        self.holds((("a", ("b",), ("a", "b"), (), (), 0), ("b", ("a",), ("b", "a"), (), (), 0)), False)
        self.holds((("a", ("a",), ("a",), (), (), 0),), False)
        self.holds((("a", ("b",), ("a", "b"), (), (), 0),), False)
        self.holds((("Aa", (), ("Aa",), (), (), 0),), False)

    def test_fields(self):
        for fields in ((), ("x",), ("z", "y"), ("c", "b", "a"), ("abcdef",)):
            self.holds(with_row(0, 3, fields), True)
        for fields in (("a", "b", "c", "d"), ("a", "a"), ("a", "b", "a"), ("",), ("abcdefg",), ("A",), ["a"], "a",
                       (1,), None):
            self.holds(with_row(0, 3, fields), False)

    def test_deeds(self):
        for deeds in ((), (("a", 1),), (("a", 99),), (("a", 5), ("b", 5)), (("a", 9), ("aa", 1), ("b", 5)),
                      tuple((name, 1) for name in "abcdefghijklmn")):
            self.holds(with_row(3, 4, deeds), True)
        for deeds in ((("a", 0),), (("a", 100),), (("a", -1),), (("a", True),), (("a", None),), (("a", "1"),),
                      (("b", 1), ("a", 2)), (("a", 1), ("a", 2)), (("a", 1), ("c", 2), ("b", 3)), (("a",),),
                      (("a", 1, 1),), [("a", 1)], (["a", 1],), (("A", 1),), (("abcdefg", 1),), (("", 1),), ((1, 1),)):
            self.holds(with_row(3, 4, deeds), False)

    def test_numbers(self):
        for number in (0, 1, 100, 10 ** 20):
            self.holds(with_row(1, 5, number), True)
        for number in (-1, True, False, None, "0", (0,)):
            self.holds(with_row(1, 5, number), False)

    def test_orders(self):
        order = TABLE[3][2]
        for at in range(3):
            turned = order[:at] + (order[at + 1], order[at]) + order[at + 2:]
            self.holds(with_row(3, 2, turned), False)
        for wrong in (order[:-1], order + ("o",), order[1:], list(order), (), None, "c", ("order", order)):
            self.holds(with_row(3, 2, wrong), False)

    def test_an_order_for_a_family_that_quarrels(self):
        orders = {"a": ("a",), "b": ("b", "a")}
        for order in (("c", "a", "b"), ("c", "b", "a"), (), ("c",)):
            rows = tuple((kind, elders, orders.get(kind, order), (), (), 0) for kind, elders in ELDERS_QUARREL[:3])
            self.holds(rows, False)
            self.holds(rows[:2], True)

    def test_an_order_told_as_a_quarrel(self):
        told = order_of(ELDERS_QUARREL, "c")
        orders = {"a": ("a",), "b": ("b", "a"), "c": told}
        self.holds(tuple((kind, elders, orders[kind], (), (), 0) for kind, elders in ELDERS_QUARREL[:3]), False)

    def test_things_of_any_kind(self):
        for thing in ANY:
            self.holds(thing, False)
        for thing in alien_at_each_place(TABLE):
            self.holds(thing, False)
        many = 0
        for thing in homely_at_each_place(TABLE):
            many += plain_is_table(thing)
            self.holds(thing, plain_is_table(thing))
        self.assertGreater(many, 100)

    def test_parts_too_many_or_too_few(self):
        for at in range(4):
            row = TABLE[at]
            for wrong in (row[:-1], row[1:], row + (0,), (), list(row)):
                self.holds(TABLE[:at] + (wrong,) + TABLE[at + 1:], False)

    def test_in_plenty(self):
        for family in some_families(8, 200):
            if all(order_of(family, kind)[0] == "order" for kind, _ in family):
                self.holds(table_from(family), True)


class TestLooks(unittest.TestCase):
    def test_found(self):
        self.assertEqual(found(TABLE, "c", "own"), ("c", 7))
        self.assertEqual(found(TABLE, "c", "go"), ("a", 3))
        self.assertEqual(found(TABLE, "c", "stay"), ("b", 99))
        self.assertEqual(found(TABLE, "c", "end"), ("b", 5))
        self.assertEqual(found(TABLE, "a", "stay"), ("o", 2))
        self.assertEqual(found(TABLE, "o", "go"), ("o", 1))
        self.assertEqual(found(BEHIND, "d", "go"), ("e", 1))

    def test_found_nowhere(self):
        self.assertIsNone(found(TABLE, "a", "end"))
        self.assertIsNone(found(TABLE, "o", "own"))
        self.assertIsNone(found(TABLE, "c", "none"))
        self.assertIsNone(found(LONE, "a", "go"))

    def test_behind(self):
        self.assertEqual(behind(TABLE, "c", "c", "go"), ("a", 3))
        self.assertEqual(behind(TABLE, "c", "a", "go"), ("o", 1))
        self.assertEqual(behind(TABLE, "c", "a", "stay"), ("b", 99))
        self.assertEqual(behind(TABLE, "c", "b", "stay"), ("o", 2))
        self.assertEqual(behind(TABLE, "a", "a", "go"), ("o", 1))
        self.assertEqual(behind(BEHIND, "d", "e", "go"), ("f", 2))
        self.assertIsNone(behind(TABLE, "c", "o", "go"))
        self.assertIsNone(behind(TABLE, "c", "c", "own"))
        self.assertIsNone(behind(TABLE, "c", "b", "end"))

    def test_behind_what_does_not_stand_in_the_order(self):
        self.assertIsNone(behind(TABLE, "a", "b", "go"))
        self.assertIsNone(behind(TABLE, "a", "c", "go"))
        self.assertIsNone(behind(TABLE, "o", "a", "go"))

    def test_behind_things_of_any_kind(self):
        for thing in ALIENS + [None, 0, 1, 2, "zz", (), ("c",), ("a", "b")]:
            with self.subTest(thing=repr(thing)[:80]):
                self.assertIsNone(behind(TABLE, "c", thing, "go"))

    def test_new_fields(self):
        self.assertEqual(new_fields(TABLE, "o"), ("x", "y"))
        self.assertEqual(new_fields(TABLE, "a"), ("x", "y", "z"))
        self.assertEqual(new_fields(TABLE, "b"), ("x", "y"))
        self.assertEqual(new_fields(TABLE, "c"), ("x", "y", "z", "w"))
        self.assertEqual(new_fields(BEHIND, "d"), ("z", "y", "x"))
        self.assertEqual(new_fields(LONE, "a"), ())

    def test_no_kind(self):
        asks = (
            lambda thing: found(TABLE, thing, "go"),
            lambda thing: behind(TABLE, thing, "c", "go"),
            lambda thing: behind(TABLE, thing, thing, "go"),
            lambda thing: new_fields(TABLE, thing),
        )
        for at, ask in enumerate(asks):
            for thing in ALIENS + [None, 0, 1, (), ("a",), "go", "zz"]:
                with self.subTest(at=at, thing=repr(thing)[:80]):
                    with self.assertRaises(NoKind):
                        ask(thing)
