"""Promise [2], refusals, and the interface of errors.py."""

import unittest

from sidecut import errors
from sidecut.errors import BadNumber, BadPath, BadSheet, SideError

REFUSALS = (BadNumber, BadPath, BadSheet)


class Refusals(unittest.TestCase):
    def test_side_error_stands_straight_under_value_error(self):
        self.assertEqual(SideError.__bases__, (ValueError,))

    def test_each_refusal_stands_straight_under_side_error(self):
        for refusal in REFUSALS:
            self.assertEqual(refusal.__bases__, (SideError,), refusal)

    def test_no_refusal_stands_under_another_one(self):
        for one in REFUSALS:
            for other in REFUSALS:
                self.assertEqual(issubclass(one, other), one is other, (one, other))

    def test_no_other_class_is_there(self):
        found = {thing for thing in vars(errors).values() if isinstance(thing, type)}
        self.assertEqual(found, {SideError, *REFUSALS})

    def test_they_are_called_as_told(self):
        self.assertEqual([refusal.__name__ for refusal in (SideError, *REFUSALS)],
                         ["SideError", "BadNumber", "BadPath", "BadSheet"])

    def test_words_are_taken(self):
        for refusal in (SideError, BadNumber, BadPath):
            self.assertEqual(str(refusal("some words")), "some words")

    def test_bad_sheet_has_its_row(self):
        for row in (0, 1, 59, 10 ** 70):
            made = BadSheet(row)
            self.assertIs(type(made.row), int)
            self.assertEqual(made.row, row)

    def test_each_bad_sheet_has_its_own_row(self):
        one, other = BadSheet(3), BadSheet(4)
        self.assertEqual((one.row, other.row), (3, 4))

    def test_raised_they_are_taken_by_each_name_above(self):
        for made in (BadNumber("x"), BadPath("x"), BadSheet(2)):
            for name in (type(made), SideError, ValueError):
                with self.assertRaises(name) as held:
                    raise made
                self.assertIs(held.exception, made)
