"""Point 3: the refusals, their fields and where they stand."""

import copy
import inspect
import unittest

from dots import errors
from dots.errors import (
    DotError, NoEntry, NoForm, NoLetter, NoLine, NoLines, NoMark, NoReading, NoSign, NoTable,
    TooMany, Twice, Two,
)

FIELDS = {
    NoForm: {"number": 3},
    Twice: {"number": 1},
    NoMark: {"number": 4},
    NoLetter: {"letter": "q"},
    NoTable: {"place": 0},
    NoSign: {"place": 7},
    NoReading: {"place": 12},
    TooMany: {"most": 2000},
    Two: {"row": (1, 0, 63), "text": "a", "other": "b c"},
}
OF_A_TEXT = [NoLines, NoEntry, NoLine]


class RefusalsTest(unittest.TestCase):
    def test_the_base_stands_under_value_error(self):
        self.assertEqual(DotError.__bases__, (ValueError,))

    def test_each_stands_straight_under_the_base_and_under_no_other(self):
        for kind in list(FIELDS) + OF_A_TEXT:
            self.assertEqual(kind.__bases__, (DotError,), kind)

    def test_there_are_the_twelve_alone(self):
        kinds = [kind for name, kind in inspect.getmembers(errors, inspect.isclass)]
        self.assertEqual(set(kinds), set(FIELDS) | set(OF_A_TEXT) | {DotError})
        self.assertEqual(len(kinds), 13)

    def test_fields_in_their_order(self):
        for kind, fields in FIELDS.items():
            self.assertEqual(vars(kind(*fields.values())), fields, kind)

    def test_fields_by_their_names(self):
        for kind, fields in FIELDS.items():
            self.assertEqual(vars(kind(**fields)), fields, kind)

    def test_a_field_must_be_given(self):
        for kind in FIELDS:
            with self.assertRaises(TypeError):
                kind()

    def test_made_of_a_text(self):
        for kind in OF_A_TEXT:
            self.assertEqual(str(kind("no such thing")), "no such thing")

    def test_raised_and_taken_by_the_base(self):
        for kind, fields in FIELDS.items():
            with self.assertRaises(DotError) as taken:
                raise kind(*fields.values())
            self.assertIs(type(taken.exception), kind)

    def test_a_copy_has_the_same_fields(self):
        for kind, fields in FIELDS.items():
            self.assertEqual(vars(copy.copy(kind(*fields.values()))), fields, kind)


if __name__ == "__main__":
    unittest.main()
