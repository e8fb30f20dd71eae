import unittest

from things import (
    ALIENS, ANY, CHAIN, DIAMOND, SEVEN, THREE_QUARREL, TWO_QUARREL, alien_at_each_place, homely_at_each_place,
    plain_above, plain_is_family, some_families,
)
from warmrows.errors import NoKind, RowError
from warmrows.families import above, beneath, is_family


class TestIsFamily(unittest.TestCase):
    def holds(self, thing, truth):
        with self.subTest(thing=repr(thing)[:200]):
            self.assertIs(is_family(thing), truth)

    def test_families(self):
        for family in (CHAIN, DIAMOND, SEVEN, TWO_QUARREL, THREE_QUARREL, (("a", ()),), (("abcdef", ()),)):
            self.holds(family, True)

    def test_how_many_kinds(self):
        kinds = tuple((letter, ()) for letter in "abcdefgh")
        for many in range(1, 8):
            self.holds(kinds[:many], True)
        self.holds((), False)
        self.holds(kinds, False)

    def test_names(self):
        for name in ("a", "z", "az", "abcdef", "zzzzzz"):
            self.holds(((name, ()),), True)
        for name in ("", "abcdefg", "A", "aB", "Zebra", " ", " a", "a ", "a b", "1", "a1", "a_", "-", "a\n", "`", "{",
                     "\u00e4", "\u00df", "\u0430", "\u2170", "\u00aa"):
            self.holds(((name, ()),), False)

    def test_a_kind_twice(self):
        self.holds((("a", ()), ("a", ())), False)
        self.holds((("a", ()), ("b", ("a",)), ("a", ())), False)

    def test_elders(self):
        self.holds((("a", ()), ("b", ("a", "a"))), False)
        self.holds((("a", ()), ("b", ("c",))), False)
        self.holds((("a", ("a",)),), False)
        self.holds((("b", ("a",)), ("a", ())), True)
        self.holds((("a", ()), ("b", "a")), False)
        self.holds((("a", ()), ("b", "")), False)

    def test_rings(self):
        self.holds((("a", ("b",)), ("b", ("a",))), False)
        self.holds((("a", ("b",)), ("b", ("c",)), ("c", ("a",))), False)
        self.holds((("x", ()), ("a", ("x", "d")), ("b", ("a",)), ("c", ("x", "b")), ("d", ("c",))), False)
        names = "abcdefg"
        self.holds(tuple((name, (names[at - 1],)) for at, name in enumerate(names)), False)
        self.holds(tuple((name, (names[at - 1],) if at else ()) for at, name in enumerate(names)), True)

    def test_forms(self):
        self.holds([("a", ())], False)
        self.holds((["a", ()],), False)
        self.holds((("a", []),), False)
        self.holds((("a", ()), ("b", ["a"])), False)
        self.holds((("a",),), False)
        self.holds((("a", (), ()),), False)
        self.holds(("ab",), False)
        self.holds(((),), False)

    def test_things_of_any_kind(self):
        for thing in ANY:
            self.holds(thing, False)
        for family in (CHAIN, SEVEN, (("a", ()),)):
            for thing in alien_at_each_place(family):
                self.holds(thing, False)
            for thing in homely_at_each_place(family):
                self.holds(thing, plain_is_family(thing))


class TestAboveBeneath(unittest.TestCase):
    def test_told_as_the_family_has_them(self):
        self.assertEqual(above(SEVEN, "g"), ("f", "e", "d", "c", "b", "a"))
        self.assertEqual(above(SEVEN, "e"), ("d", "c", "b", "a"))
        self.assertEqual(above(SEVEN, "d"), ("b", "a"))
        self.assertEqual(above(SEVEN, "b"), ())
        self.assertEqual(beneath(SEVEN, "a"), ("g", "f", "e", "d", "c"))
        self.assertEqual(beneath(SEVEN, "c"), ("g", "e"))
        self.assertEqual(beneath(SEVEN, "g"), ())
        self.assertEqual(above(DIAMOND, "low"), ("top", "left", "right"))
        self.assertEqual(beneath(DIAMOND, "top"), ("left", "right", "low"))

    def test_families_that_quarrel(self):
        self.assertEqual(above(TWO_QUARREL, "z"), ("a", "b", "x", "y"))
        self.assertEqual(beneath(TWO_QUARREL, "a"), ("x", "y", "z"))

    def test_in_plenty(self):
        for family in some_families(4, 200):
            for kind, _ in family:
                come = plain_above(family, kind)
                self.assertEqual(above(family, kind), tuple(name for name, _ in family if name in come))
                under = tuple(name for name, _ in family if kind in plain_above(family, name))
                self.assertEqual(beneath(family, kind), under)

    def test_a_great_family_is_not_gone_through_way_by_way(self):
        family = [("aa", ()), ("ab", ()), ("ac", ())]
        for letter in "bcdefghijklmnopqrstuvwxyz":
            elders = tuple(kind for kind, _ in family[-3:])
            family += [(letter + end, elders) for end in "abc"]
        family = tuple(family)
        self.assertEqual(len(above(family, "za")), 75)
        self.assertEqual(len(beneath(family, "aa")), 75)

    def test_no_kind(self):
        for ask in (above, beneath):
            for thing in ALIENS + [None, 0, 1, (), ("a",), "d", "ab"]:
                with self.subTest(ask=ask, thing=repr(thing)[:80]):
                    with self.assertRaises(NoKind) as caught:
                        ask(CHAIN, thing)
                    self.assertIsInstance(caught.exception, RowError)
