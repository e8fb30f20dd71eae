import unittest

from things import ALIENS
from warmrows.errors import RowError
from warmrows.values import FAULTS, Thrown, alike, is_value, is_yes, less, minus, plus

MOST = 999999999
NUMBERS = (0, 1, -1, 5, 400000000, MOST, -MOST)
NO_NUMBERS = (None, ("thing", 0), ("thing", 1), "kind", "great", "nothing")
VALUES = NUMBERS + NO_NUMBERS


def thrown(deed, first, second):
    """The value that is thrown."""
    try:
        told = deed(first, second)
    except Thrown as why:
        return why.value
    raise AssertionError(f"{first} {second} told {told}")


class TestValues(unittest.TestCase):
    def test_what_is_a_value(self):
        for value in VALUES + FAULTS:
            self.assertIs(is_value(value), True, value)
        for wrong in (MOST + 1, -MOST - 1, 10 ** 30, True, False, "", "a", "form", "Kind", b"kind", ("thing",),
                      ("thing", -1), ("thing", True), ("thing", None), ("thing", 0, 0), ("things", 0), ["thing", 0],
                      (0, "thing"), (), [], {}, set(), object()):
            self.assertIs(is_value(wrong), False, wrong)
        for thing in ALIENS:
            self.assertIs(is_value(thing), thing is ALIENS[2], thing)
            self.assertIs(is_value((thing, 0)), False, thing)
            self.assertIs(is_value(("thing", thing)), False, thing)
        self.assertEqual(ALIENS[2], -1)

    def test_all_words_of_faults(self):
        self.assertEqual(sorted(FAULTS), sorted(
            ["kind", "great", "nothing", "nofield", "nodeed", "many", "deep", "ring", "quarrel"]))

    def test_yes_and_no(self):
        for value in VALUES + FAULTS:
            self.assertIs(is_yes(value), value not in (None, 0), value)

    def test_plus_and_minus(self):
        for first in NUMBERS:
            for second in NUMBERS:
                for deed, number in ((plus, first + second), (minus, first - second)):
                    if abs(number) <= MOST:
                        self.assertEqual(deed(first, second), number)
                    else:
                        self.assertEqual(thrown(deed, first, second), "great")

    def test_nine_figures_and_beyond(self):
        self.assertEqual(plus(MOST - 1, 1), MOST)
        self.assertEqual(minus(1 - MOST, 1), -MOST)
        self.assertEqual(thrown(plus, MOST, 1), "great")
        self.assertEqual(thrown(plus, -MOST, -1), "great")
        self.assertEqual(thrown(minus, -MOST, 1), "great")
        self.assertEqual(thrown(minus, MOST, -1), "great")
        self.assertEqual(thrown(minus, -MOST, MOST), "great")

    def test_less(self):
        for first in NUMBERS:
            for second in NUMBERS:
                told = less(first, second)
                self.assertEqual(told, 1 if first < second else 0)
                self.assertNotIsInstance(told, bool)

    def test_what_is_no_number(self):
        for deed in (plus, minus, less):
            for wrong in NO_NUMBERS:
                for other in VALUES:
                    self.assertEqual(thrown(deed, wrong, other), "kind")
                    self.assertEqual(thrown(deed, other, wrong), "kind")

    def test_numbers_that_a_program_beyond_its_bounds_brings_along(self):
        self.assertEqual(minus(MOST + 1, 1), MOST)
        self.assertEqual(thrown(plus, MOST + 1, 0), "great")
        self.assertEqual(less(MOST, MOST + 1), 1)
        self.assertEqual(thrown(plus, MOST + 1, None), "kind")

    def test_alike(self):
        for at, first in enumerate(VALUES):
            for other, second in enumerate(VALUES):
                told = alike(first, second)
                self.assertEqual(told, 1 if at == other else 0, (first, second))
                self.assertNotIsInstance(told, bool)

    def test_what_is_thrown_is_no_refusal(self):
        self.assertFalse(issubclass(Thrown, RowError))
        self.assertFalse(issubclass(Thrown, ValueError))
