import itertools
import unittest

from things import (
    ALIENS, CHAIN, DIAMOND, ELDERS_QUARREL, SEVEN, THREE_QUARREL, TWO_QUARREL, all_families, some_families,
)
from warmrows.errors import NoKind, NoOrder, RowError
from warmrows.families import above
from warmrows.orders import order_of, rows_for


def keeps(order, row):
    at = [order.index(name) for name in row]
    return at == sorted(at)


def some_order_keeps(family, kind, rows):
    """Whether any tuple at all would do: tried one by one, as the program must not."""
    for rest in itertools.permutations(above(family, kind)):
        if all(keeps((kind,) + rest, row) for row in rows):
            return True
    return False


class OrderCase(unittest.TestCase):
    def check_ring(self, family, kind, told):
        self.assertEqual(len(told), 3)
        at, ring = told[1:]
        self.assertIn(at, (kind,) + above(family, kind))
        for elder in dict(family)[at]:
            self.assertEqual(order_of(family, elder)[0], "order")
        rows = rows_for(family, at)
        self.assertIsInstance(ring, tuple)
        self.assertGreaterEqual(len(ring), 2)
        for one, other in zip(ring, ring[1:] + ring[:1]):
            self.assertIsInstance(one, tuple)
            x, y, number = one
            self.assertLess(rows[number].index(x), rows[number].index(y))
            self.assertGreaterEqual(number, 0)
            self.assertEqual(y, other[0])
        self.assertEqual(len({x for x, _, _ in ring}), len(ring))

    def check_kind_of(self, family, kind):
        told = order_of(family, kind)
        if told[0] == "quarrel":
            self.check_ring(family, kind, told)
            if told[1] == kind:
                self.assertFalse(some_order_keeps(family, kind, rows_for(family, kind)))
            return
        self.assertEqual(told[0], "order")
        order = told[1]
        self.assertEqual(order[0], kind)
        self.assertEqual(sorted(order[1:]), sorted(above(family, kind)))
        rows = rows_for(family, kind)
        self.assertEqual(rows[-1], dict(family)[kind])
        self.assertEqual(rows[:-1], tuple(order_of(family, elder)[1] for elder in rows[-1]))
        for row in rows:
            self.assertTrue(keeps(order, row))
        for name in order[1:]:
            self.assertTrue(keeps(order, order_of(family, name)[1]))


class TestOrders(OrderCase):
    def test_chains(self):
        self.assertEqual(order_of(CHAIN, "a"), ("order", ("a",)))
        self.assertEqual(order_of(CHAIN, "b"), ("order", ("b", "a")))
        self.assertEqual(order_of(CHAIN, "c"), ("order", ("c", "b", "a")))

    def test_several_elders(self):
        self.assertEqual(order_of(DIAMOND, "low"), ("order", ("low", "left", "right", "top")))
        self.assertEqual(order_of(SEVEN, "d"), ("order", ("d", "b", "a")))
        self.assertEqual(order_of(SEVEN, "e"), ("order", ("e", "d", "b", "c", "a")))
        self.assertEqual(order_of(SEVEN, "g"), ("order", ("g", "f", "e", "d", "b", "c", "a")))

    def test_the_first_row_goes_first_where_several_would_do(self):
        family = (("o", ()), ("a", ("o",)), ("b", ()), ("c", ("a", "b")), ("d", ("b", "a")))
        self.assertEqual(order_of(family, "c"), ("order", ("c", "a", "o", "b")))
        self.assertEqual(order_of(family, "d"), ("order", ("d", "b", "a", "o")))

    def test_as_python_has_it(self):
        for family in itertools.chain(all_families(4), some_families(5, 400)):
            classes = self.python_classes(family)
            for kind, _ in family:
                told = order_of(family, kind)
                if kind in classes:
                    names = tuple(each.__name__ for each in classes[kind].__mro__[:-1])
                    self.assertEqual(told, ("order", names))
                else:
                    self.assertEqual(told[0], "quarrel")

    def python_classes(self, family):
        classes = {}
        for _ in family:
            for kind, elders in family:
                if kind not in classes and all(elder in classes for elder in elders):
                    try:
                        classes[kind] = type(kind, tuple(classes[elder] for elder in elders), {})
                    except TypeError:
                        pass
        return classes

    def test_orders_keep_what_they_must(self):
        for family in itertools.chain(all_families(4), some_families(6, 300)):
            for kind, _ in family:
                with self.subTest(family=family, kind=kind):
                    self.check_kind_of(family, kind)

    def test_a_quarrel_of_two_rows(self):
        told = order_of(TWO_QUARREL, "z")
        self.assertEqual(told[:2], ("quarrel", "z"))
        self.assertEqual({step for step in told[2]}, {("a", "b", 0), ("b", "a", 1)})
        self.check_ring(TWO_QUARREL, "z", told)

    def test_a_quarrel_of_three_rows_only_together(self):
        told = order_of(THREE_QUARREL, "z")
        self.assertEqual(told[:2], ("quarrel", "z"))
        self.assertEqual({step for step in told[2]}, {("a", "b", 0), ("b", "c", 1), ("c", "a", 2)})
        self.check_ring(THREE_QUARREL, "z", told)
        for two in itertools.permutations("pqr", 2):
            self.assertEqual(order_of(THREE_QUARREL[:-1] + (("z", two),), "z")[0], "order")

    def test_a_quarrel_at_a_kind_above(self):
        for kind in "cde":
            told = order_of(ELDERS_QUARREL, kind)
            self.assertEqual(told[:2], ("quarrel", "c"))
            self.assertEqual({step for step in told[2]}, {("a", "b", 2), ("b", "a", 1)})
            self.check_ring(ELDERS_QUARREL, kind, told)
        self.assertEqual(order_of(ELDERS_QUARREL, "b"), ("order", ("b", "a")))

    def test_rings_in_plenty(self):
        many = 0
        for family in itertools.chain(all_families(5), some_families(7, 500)):
            for kind, _ in family:
                told = order_of(family, kind)
                if told[0] == "quarrel":
                    many += 1
                    self.check_ring(family, kind, told)
        self.assertGreater(many, 1000)

    def test_a_great_family_is_not_gone_through_way_by_way(self):
        wide = [("aa", ()), ("ab", ("aa",)), ("ac", ("aa",))]
        for letter in "bcdefghijklmnopqrstuvwxyz":
            low, left, right = letter + "a", letter + "b", letter + "c"
            ends = (wide[-2][0], wide[-1][0])
            wide += [(low, ends), (left, (low,)), (right, (low,))]
        self.assertEqual(len(order_of(tuple(wide), "zc")[1]), len(wide) - 1)

    def test_no_kind(self):
        for ask in (order_of, rows_for):
            for thing in ALIENS + [None, 0, 1, (), ("a",), "d", "ab"]:
                with self.subTest(ask=ask, thing=repr(thing)[:80]):
                    with self.assertRaises(NoKind):
                        ask(CHAIN, thing)


class TestRows(OrderCase):
    def test_rows(self):
        self.assertEqual(rows_for(CHAIN, "a"), ((),))
        self.assertEqual(rows_for(CHAIN, "c"), (("b", "a"), ("b",)))
        self.assertEqual(rows_for(DIAMOND, "low"), (("left", "top"), ("right", "top"), ("left", "right")))
        self.assertEqual(rows_for(TWO_QUARREL, "z"), (("x", "a", "b"), ("y", "b", "a"), ("x", "y")))
        self.assertEqual(rows_for(ELDERS_QUARREL, "c"), (("a",), ("b", "a"), ("a", "b")))

    def test_no_order(self):
        for kind in ("d", "e"):
            with self.assertRaises(NoOrder) as caught:
                rows_for(ELDERS_QUARREL, kind)
            self.assertIsInstance(caught.exception, RowError)
            self.assertNotIsInstance(caught.exception, NoKind)

    def test_told_once_and_again(self):
        before = repr(THREE_QUARREL)
        self.assertEqual(order_of(THREE_QUARREL, "z"), order_of(THREE_QUARREL, "z"))
        self.assertEqual(repr(THREE_QUARREL), before)
