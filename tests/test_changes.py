import itertools
import random
import unittest

from things import ANY, SameAsAll, TWO_QUARREL, some_families
from warmrows.changes import back, changed, turned
from warmrows.errors import NoChange, RowError
from warmrows.families import beneath
from warmrows.orders import order_of
from warmrows.tables import behind, found, is_table, new_fields

TABLE = (
    ("o", (), ("o",), ("x", "y"), (("go", 1), ("stay", 2)), 0),
    ("a", ("o",), ("a", "o"), ("y", "z"), (("go", 3),), 4),
    ("b", ("o",), ("b", "o"), (), (("end", 5), ("stay", 99)), 1),
    ("c", ("a", "b"), ("c", "a", "b", "o"), ("w", "x"), (("own", 7),), 2),
    ("d", ("c",), ("d", "c", "a", "b", "o"), (), (), 9),
    ("e", (), ("e",), ("v",), (("go", 8),), 3),
)
DOORS = (changed, turned, back)


def table_from(family, source=None):
    rows = []
    for kind, elders in family:
        fields, deeds, number = (), (), 0
        if source:
            fields = tuple(source.sample(["x", "y", "z", "w"], source.randint(0, 3)))
            names = sorted(source.sample(["do", "go", "it"], source.randint(0, 2)))
            deeds = tuple((name, source.randint(1, 3)) for name in names)
            number = source.randint(0, 5)
        rows.append((kind, elders, order_of(family, kind)[1], fields, deeds, number))
    return tuple(rows)


def some_tables(seed, many):
    source = random.Random(seed)
    for family in some_families(seed, many):
        if all(order_of(family, kind)[0] == "order" for kind, _ in family):
            yield table_from(family, source)


def family_in(table):
    return tuple(row[:2] for row in table)


def row_in(table, kind):
    return next(row for row in table if row[0] == kind)


def numbers(table):
    return {row[0]: row[5] for row in table}


def but_numbers(table):
    return tuple(row[:5] for row in table)


def all_changes(table):
    kinds = [row[0] for row in table]
    for kind in kinds:
        for deed in ("do", "go", "it", "new"):
            for body in (None, 1, 2, 99):
                yield ("own", kind, deed, body)
        for many in range(4):
            for elders in itertools.permutations(kinds, many):
                yield ("elders", kind, elders)


def plain_word(table, change):
    """Why a change that has its form is refused, or None."""
    kind = change[1]
    if change[0] == "own":
        own = dict(row_in(table, kind)[4])
        return "nodeed" if change[3] is None and change[2] not in own else None
    if set(change[2]) & set(beneath(family_in(table), kind) + (kind,)):
        return "ring"
    family = tuple((name, change[2] if name == kind else elders) for name, elders in family_in(table))
    if any(order_of(family, name)[0] == "quarrel" for name, _ in family):
        return "quarrel"
    return None


def word_of(door, table, change):
    try:
        door(table, change)
    except NoChange as refusal:
        return refusal.word
    return None


class ChangeCase(unittest.TestCase):
    def refused(self, table, change, word):
        for door in DOORS:
            with self.subTest(door=door, change=repr(change)[:200]):
                with self.assertRaises(NoChange) as caught:
                    door(table, change)
                self.assertEqual(caught.exception.word, word)
                self.assertIsInstance(caught.exception, RowError)


class TestChanged(ChangeCase):
    def test_a_deed_put(self):
        after = changed(TABLE, ("own", "a", "stay", 10))
        self.assertEqual(row_in(after, "a"), ("a", ("o",), ("a", "o"), ("y", "z"), (("go", 3), ("stay", 10)), 5))
        self.assertEqual(numbers(after), {"o": 0, "a": 5, "b": 1, "c": 3, "d": 10, "e": 3})
        self.assertEqual(found(after, "d", "stay"), ("a", 10))

    def test_names_rise_behind_a_change(self):
        for deed in ("aa", "gn", "gp", "zz"):
            after = changed(TABLE, ("own", "o", deed, 50))
            self.assertEqual(row_in(after, "o")[4], tuple(sorted((("go", 1), ("stay", 2), (deed, 50)))))
            self.assertTrue(is_table(after))

    def test_another_body(self):
        after = changed(TABLE, ("own", "b", "end", 1))
        self.assertEqual(row_in(after, "b")[4], (("end", 1), ("stay", 99)))
        self.assertEqual(numbers(after), {"o": 0, "a": 4, "b": 2, "c": 3, "d": 10, "e": 3})

    def test_a_deed_put_anew_with_the_body_it_has(self):
        after = changed(TABLE, ("own", "c", "own", 7))
        self.assertEqual(but_numbers(after), but_numbers(TABLE))
        self.assertEqual(numbers(after), {"o": 0, "a": 4, "b": 1, "c": 3, "d": 10, "e": 3})

    def test_a_deed_taken_away(self):
        after = changed(TABLE, ("own", "o", "go", None))
        self.assertEqual(row_in(after, "o")[4], (("stay", 2),))
        self.assertEqual(numbers(after), {"o": 1, "a": 5, "b": 2, "c": 3, "d": 10, "e": 3})
        self.assertEqual(row_in(changed(TABLE, ("own", "e", "go", None)), "e")[4], ())

    def test_elders_turned_about(self):
        after = changed(TABLE, ("elders", "c", ("b", "a")))
        self.assertEqual(row_in(after, "c"), ("c", ("b", "a"), ("c", "b", "a", "o"), ("w", "x"), (("own", 7),), 3))
        self.assertEqual(row_in(after, "d"), ("d", ("c",), ("d", "c", "b", "a", "o"), (), (), 10))
        self.assertEqual(after[:3] + after[5:], TABLE[:3] + TABLE[5:])

    def test_more_elders_fewer_and_none(self):
        more = changed(TABLE, ("elders", "c", ("e", "a", "b")))
        self.assertEqual(row_in(more, "d")[2], ("d", "c", "e", "a", "b", "o"))
        fewer = changed(TABLE, ("elders", "c", ("b",)))
        self.assertEqual(row_in(fewer, "d")[2], ("d", "c", "b", "o"))
        none = changed(TABLE, ("elders", "c", ()))
        self.assertEqual(row_in(none, "d")[2], ("d", "c"))
        for after in (more, fewer, none):
            self.assertEqual(numbers(after), {"o": 0, "a": 4, "b": 1, "c": 3, "d": 10, "e": 3})
            self.assertTrue(is_table(after))

    def test_the_elders_it_has(self):
        after = changed(TABLE, ("elders", "o", ()))
        self.assertEqual(but_numbers(after), but_numbers(TABLE))
        self.assertEqual(numbers(after), {"o": 1, "a": 5, "b": 2, "c": 3, "d": 10, "e": 3})

    def test_elders_that_stand_behind_their_kind(self):
        after = changed(TABLE, ("elders", "o", ("e",)))
        self.assertEqual(row_in(after, "c")[2], ("c", "a", "b", "o", "e"))
        self.assertTrue(is_table(after))

    def test_in_plenty(self):
        for table in some_tables(11, 60):
            for change in all_changes(table):
                word = plain_word(table, change)
                self.assertEqual(word_of(changed, table, change), word)
                if word is None:
                    self.check_behind(table, change, changed(table, change))

    def check_behind(self, table, change, after):
        kind = change[1]
        self.assertTrue(is_table(after))
        self.assertEqual([row[0] for row in after], [row[0] for row in table])
        raised = beneath(family_in(table), kind) + (kind,)
        for old, new in zip(table, after):
            self.assertEqual(new[5], old[5] + (old[0] in raised))
            self.assertEqual(new[3], old[3])
            if old[0] != kind:
                self.assertEqual((new[1], new[4]), (old[1], old[4]))
            elif change[0] == "own":
                own = dict(old[4])
                own[change[2]] = change[3]
                left = {deed: body for deed, body in own.items() if body is not None}
                self.assertEqual((new[1], dict(new[4])), (old[1], left))
            else:
                self.assertEqual((new[1], new[4]), (change[2], old[4]))


class TestRefusals(ChangeCase):
    def test_form(self):
        for change in (
            (), ("own",), ("own", "a"), ("own", "a", "go"), ("own", "a", "go", 1, 1), ("elders", "a"),
            ("elders", "a", (), ()), ("elders", "a", ("o",), None), ("own", "a", ("o",)), ("elders", "a", "go", 1),
            ("Own", "a", "go", 1), ("put", "a", "go", 1), ("", "a", "go", 1), (None, "a", "go", 1),
            ["own", "a", "go", 1], ["elders", "a", ()], ("elders", "a", ["o"]), ("elders", "a", []),
            ("own", "zz", "go", 1), ("own", "zz", "none", None), ("elders", "zz", ()), ("elders", "a", ("zz",)),
            ("elders", "a", ("o", "o")), ("elders", "a", "o"), ("elders", "a", None), ("elders", "a", ("o", 1)),
            ("own", "a", "", 1), ("own", "a", "abcdefg", 1), ("own", "a", "Go", 1), ("own", "a", "g o", None),
            ("own", "a", "go", 0), ("own", "a", "go", 100), ("own", "a", "go", -1), ("own", "a", "go", True),
            ("own", "a", "go", False), ("own", "a", "go", "1"), ("own", "a", "go", (1,)), ("own", "a", 1, 1),
        ):
            self.refused(TABLE, change, "form")

    def test_form_at_the_edges(self):
        for body in (1, 99, None):
            self.assertIsNone(word_of(changed, TABLE, ("own", "a", "go", body)))
        self.assertIsNone(word_of(changed, TABLE, ("own", "a", "abcdef", 1)))

    def test_form_of_things_of_any_kind(self):
        for thing in ANY:
            self.refused(TABLE, thing, "form")
            for change in (("own", "a", "go", 1), ("elders", "a", ("e",))):
                for at in range(len(change)):
                    wrong = change[:at] + (thing,) + change[at + 1:]
                    if self.may_stand(change, at, thing):
                        continue
                    self.refused(TABLE, wrong, "form")
            if thing in ["a"] and isinstance(thing, str):
                continue
            self.refused(TABLE, ("elders", "a", (thing,)), "form")
            self.refused(TABLE, ("elders", "a", ("o", thing)), "form")

    def may_stand(self, change, at, thing):
        if isinstance(thing, (SameAsAll, bool)):
            return False
        if change[0] == "elders":
            return (at, thing) in [(1, "a"), (2, ()), (2, ("a",))]
        return (at, thing) in [(1, "a"), (2, "a"), (2, "zz"), (2, "abcdef"), (3, 1), (3, 99), (3, None)]

    def test_nodeed(self):
        self.refused(TABLE, ("own", "a", "stay", None), "nodeed")
        self.refused(TABLE, ("own", "d", "own", None), "nodeed")
        self.refused(TABLE, ("own", "o", "none", None), "nodeed")

    def test_ring(self):
        self.refused(TABLE, ("elders", "o", ("o",)), "ring")
        self.refused(TABLE, ("elders", "o", ("a",)), "ring")
        self.refused(TABLE, ("elders", "o", ("e", "d")), "ring")
        self.refused(TABLE, ("elders", "a", ("o", "c")), "ring")

    def test_quarrel_at_the_kind(self):
        self.refused(TABLE, ("elders", "c", ("o", "a")), "quarrel")

    def test_quarrel_only_at_a_kind_beneath(self):
        family = TWO_QUARREL[:3] + (("y", ("a",)), ("z", ("x", "y")))
        self.refused(table_from(family), ("elders", "y", ("b", "a")), "quarrel")
        self.assertIsNone(word_of(changed, table_from(family[:4]), ("elders", "y", ("b", "a"))))

    def test_quarrel_only_beneath_that(self):
        family = (("a", ()), ("b", ()), ("x", ("a", "b")), ("y", ("a",)), ("m", ("y",)), ("n", ("m",)), ("z", ("x", "n")))
        self.refused(table_from(family), ("elders", "y", ("b", "a")), "quarrel")
        self.assertIsNone(word_of(changed, table_from(family[:-1]), ("elders", "y", ("b", "a"))))

    def test_the_order_of_the_words(self):
        # No such kind, and no such deed either.
        self.refused(TABLE, ("own", "zz", "zz", None), "form")
        # The kind twice: no form, and a ring too.
        self.refused(TABLE, ("elders", "a", ("a", "a")), "form")
        self.refused(TABLE, ("elders", "a", ("a", "zz")), "form")
        # o stands ahead of b, its own elder, and c comes to a.
        self.refused(TABLE, ("elders", "a", ("o", "b", "c")), "ring")


class TestTurned(ChangeCase):
    def test_a_deed_put(self):
        told = turned(TABLE, ("own", "a", "stay", 10))
        self.assertEqual(told, (
            ("a", "c", "d"),
            (("a", "stay"), ("c", "stay"), ("d", "stay")),
            (("c", "c", "stay"), ("d", "c", "stay"), ("d", "d", "stay")),
            (),
        ))

    def test_a_deed_put_ahead_of_which_another_is_found(self):
        told = turned(TABLE, ("own", "o", "go", 77))
        self.assertEqual(told, (
            ("o", "a", "b", "c", "d"),
            (("b", "go"), ("o", "go")),
            (("a", "a", "go"), ("b", "b", "go"), ("c", "a", "go"), ("c", "b", "go"), ("d", "a", "go"), ("d", "b", "go")),
            (),
        ))

    def test_a_change_that_turns_nothing_found(self):
        self.assertEqual(turned(TABLE, ("own", "c", "own", 7)), (("c", "d"), (), (), ()))
        self.assertEqual(turned(TABLE, ("elders", "e", ())), (("e",), (), (), ()))

    def test_elders(self):
        told = turned(TABLE, ("elders", "d", ("e",)))
        self.assertEqual(told, (
            ("d",),
            (("d", "end"), ("d", "go"), ("d", "own"), ("d", "stay")),
            (("d", "a", "end"), ("d", "a", "go"), ("d", "a", "stay"), ("d", "b", "go"), ("d", "b", "stay"),
             ("d", "c", "end"), ("d", "c", "go"), ("d", "c", "stay"),
             ("d", "d", "end"), ("d", "d", "go"), ("d", "d", "own"), ("d", "d", "stay")),
            ("d",),
        ))

    def test_fields_of_new_things(self):
        self.assertEqual(turned(TABLE, ("elders", "o", ("e",)))[3], ("o", "a", "b", "c", "d"))
        self.assertEqual(turned(TABLE, ("elders", "b", ()))[3], ("b",))

    def test_in_plenty(self):
        for table in some_tables(12, 40):
            for change in all_changes(table):
                word = plain_word(table, change)
                self.assertEqual(word_of(turned, table, change), word)
                if word is None:
                    self.check_turned(table, changed(table, change), turned(table, change))

    def check_turned(self, table, after, told):
        kinds = [row[0] for row in table]
        deeds = ("do", "go", "it", "new")
        raised = tuple(kind for kind in kinds if numbers(table)[kind] != numbers(after)[kind])
        looks = {(kind, deed) for kind in kinds for deed in deeds
                 if found(table, kind, deed) != found(after, kind, deed)}
        ups = {(kind, home, deed) for kind in kinds for home in kinds for deed in deeds
               if behind(table, kind, home, deed) != behind(after, kind, home, deed)}
        news = tuple(kind for kind in kinds if new_fields(table, kind) != new_fields(after, kind))
        self.assertEqual(told, (raised, tuple(sorted(looks)), tuple(sorted(ups)), news))
        for each in list(looks) + list(ups) + [(kind,) for kind in news]:
            self.assertIn(each[0], raised)


class TestBack(ChangeCase):
    def test_back(self):
        self.assertEqual(back(TABLE, ("own", "a", "stay", 10)), ("own", "a", "stay", None))
        self.assertEqual(back(TABLE, ("own", "a", "go", 10)), ("own", "a", "go", 3))
        self.assertEqual(back(TABLE, ("own", "a", "go", None)), ("own", "a", "go", 3))
        self.assertEqual(back(TABLE, ("own", "a", "go", 3)), ("own", "a", "go", 3))
        self.assertEqual(back(TABLE, ("elders", "c", ("e",))), ("elders", "c", ("a", "b")))
        self.assertEqual(back(TABLE, ("elders", "e", ("d",))), ("elders", "e", ()))

    def test_behind_both_all_is_as_it_was_but_numbers(self):
        for table in some_tables(13, 60):
            for change in all_changes(table):
                word = plain_word(table, change)
                self.assertEqual(word_of(back, table, change), word)
                if word is None:
                    after = changed(changed(table, change), back(table, change))
                    self.assertEqual(but_numbers(after), but_numbers(table))
