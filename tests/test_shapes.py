import itertools
import unittest

from things import ANY, SameAsAll
from warmrows.errors import NoField, NoShape, RowError
from warmrows.shapes import fields_at, shape_by

SHAPES = (
    (),
    (0, "put", "x"),
    (1, "put", "y"),
    (2, "drop", "x"),
    (0, "put", "y"),
    (3, "put", "x"),
    (4, "put", "x"),
    (1, "drop", "x"),
)


def by_story(story, shapes=((),)):
    number = 0
    for deed, field in story:
        shapes, number = shape_by(shapes, number, deed, field)
    return shapes, number


def stories(fields, many):
    """All stories of at most so many steps."""
    found = [()]
    yield ()
    for _ in range(many):
        longer = []
        for story in found:
            has = fields_by(story)
            for field in fields:
                longer.append(story + (("drop" if field in has else "put", field),))
        yield from longer
        found = longer


def fields_by(story):
    has = []
    for deed, field in story:
        has = has + [field] if deed == "put" else [each for each in has if each != field]
    return tuple(has)


class TestFields(unittest.TestCase):
    def test_fields(self):
        told = [fields_at(SHAPES, number) for number in range(len(SHAPES))]
        self.assertEqual(told, [(), ("x",), ("x", "y"), ("y",), ("y",), ("y", "x"), ("y", "x"), ()])

    def test_first_shape(self):
        self.assertEqual(fields_at(((),), 0), ())

    def test_a_drop_leaves_the_others_as_they_stood(self):
        shapes, number = by_story([("put", "a"), ("put", "b"), ("put", "c"), ("drop", "b")])
        self.assertEqual(fields_at(shapes, number), ("a", "c"))
        shapes, number = shape_by(shapes, number, "put", "b")
        self.assertEqual(fields_at(shapes, number), ("a", "c", "b"))

    def test_a_long_story(self):
        story = [("put", "x"), ("drop", "x")] * 2000
        shapes, number = by_story(story[:100])
        self.assertEqual(fields_at(shapes, number), ())
        shapes = ((),) + tuple((at, deed, field) for at, (deed, field) in enumerate(story))
        self.assertEqual(fields_at(shapes, len(story)), ())
        self.assertEqual(fields_at(shapes, len(story) - 1), ("x",))


class TestShapeBy(unittest.TestCase):
    def test_a_new_shape(self):
        self.assertEqual(shape_by(((),), 0, "put", "x"), (((), (0, "put", "x")), 1))
        self.assertEqual(shape_by(SHAPES, 2, "put", "z"), (SHAPES + ((2, "put", "z"),), 8))
        self.assertEqual(shape_by(SHAPES, 2, "drop", "y"), (SHAPES + ((2, "drop", "y"),), 8))
        self.assertEqual(shape_by(SHAPES, 7, "put", "x"), (SHAPES + ((7, "put", "x"),), 8))

    def test_one_that_stands(self):
        for at in range(1, len(SHAPES)):
            self.assertEqual(shape_by(SHAPES, *SHAPES[at]), (SHAPES, at))

    def test_stories_alike_and_unlike(self):
        shapes = ((),)
        by_number = {}
        told = list(stories("xyz", 5))
        for story in told + told:
            shapes, number = by_story(story, shapes)
            self.assertEqual(by_number.setdefault(number, story), story)
            self.assertEqual(fields_at(shapes, number), fields_by(story))
        self.assertEqual(len(by_number), len(told))
        self.assertEqual(len(shapes), len(told))
        self.assertEqual(len(set(shapes)), len(shapes))

    def test_unlike_stories_with_the_same_fields(self):
        one = by_story([("put", "x"), ("put", "y"), ("drop", "x")])
        shapes, other = by_story([("put", "y")], one[0])
        self.assertEqual(fields_at(shapes, one[1]), fields_at(shapes, other))
        self.assertNotEqual(one[1], other)
        self.assertNotEqual(by_story([("put", "x"), ("drop", "x")])[1], 0)


class TestRefusals(unittest.TestCase):
    def test_no_shape(self):
        things = [thing for thing in ANY if isinstance(thing, (bool, SameAsAll)) or thing not in (0, 1)]
        for thing in things + [-1, -8, len(SHAPES), len(SHAPES) + 1, 99, "0", "1", (0,), (1,), [1], {1: 1}, True, False]:
            doors = (
                lambda: fields_at(SHAPES, thing),
                lambda: shape_by(SHAPES, thing, "put", "z"),
                lambda: shape_by(SHAPES, thing, "drop", "x"),
                lambda: shape_by(SHAPES, thing, "put", "x"),
                lambda: shape_by(SHAPES, thing, "drop", "z"),
            )
            for door in doors:
                with self.subTest(thing=repr(thing)[:80]):
                    with self.assertRaises(NoShape) as caught:
                        door()
                    self.assertIsInstance(caught.exception, RowError)

    def test_no_field(self):
        for number, deed, field in (
            (1, "put", "x"), (2, "put", "x"), (2, "put", "y"), (3, "put", "y"), (5, "put", "x"),
            (0, "drop", "x"), (1, "drop", "y"), (3, "drop", "x"), (7, "drop", "x"), (2, "drop", "z"),
        ):
            with self.subTest(number=number, deed=deed, field=field):
                with self.assertRaises(NoField) as caught:
                    shape_by(SHAPES, number, deed, field)
                self.assertIsInstance(caught.exception, RowError)

    def test_what_is_no_put_and_no_drop(self):
        for deed in ("", "get", "Put", "drops"):
            for field in "xz":
                with self.assertRaises(NoField):
                    shape_by(SHAPES, 1, deed, field)

    def test_just_these_are_refused(self):
        for number, deed, field in itertools.product(range(len(SHAPES)), ("put", "drop"), "xyz"):
            has = field in fields_at(SHAPES, number)
            if has == (deed == "drop"):
                shapes, at = shape_by(SHAPES, number, deed, field)
                self.assertEqual(shapes[at], (number, deed, field))
                self.assertEqual(shapes[:len(SHAPES)], SHAPES)
            else:
                with self.assertRaises(NoField):
                    shape_by(SHAPES, number, deed, field)
