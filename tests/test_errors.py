import unittest

from warmrows.errors import (
    NoChange, NoField, NoKind, NoLimit, NoOrder, NoShape, NoText, NoWarming, RowError,
)

REFUSALS = [NoKind, NoOrder, NoChange, NoShape, NoField, NoText, NoLimit, NoWarming]


class TestErrors(unittest.TestCase):
    def test_each_is_a_row_error_and_a_value_error(self):
        for refusal in REFUSALS:
            for taken in (refusal, RowError, ValueError):
                with self.subTest(refusal=refusal, taken=taken):
                    with self.assertRaises(taken):
                        raise refusal("form")

    def test_each_stands_straight_under_the_base(self):
        for refusal in REFUSALS:
            self.assertEqual(refusal.__bases__, (RowError,))
        self.assertEqual(RowError.__bases__, (ValueError,))

    def test_none_is_taken_by_another_name(self):
        for one in REFUSALS:
            for other in REFUSALS:
                with self.subTest(one=one, other=other):
                    self.assertEqual(issubclass(one, other), one is other)

    def test_fields(self):
        self.assertEqual(NoChange("ring").word, "ring")
        self.assertEqual(NoText(3).row, 3)
