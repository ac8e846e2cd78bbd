"""The error classes and their fields."""

import unittest

from keptpairs import errors
from keptpairs.errors import OrderError

FIELDS = {
    "InvalidPair": ["pair"],
    "InvalidBook": ["name"],
    "InvalidProgram": ["thread", "index"],
    "UnknownName": ["name"],
    "NotALine": ["line"],
    "InvalidRow": ["name"],
    "Mismatch": ["name"],
    "InvalidPrice": ["name"],
    "NotKept": ["step"],
    "LetBy": ["witness"],
}


class ErrorsTest(unittest.TestCase):

    def test_the_base_class(self):
        self.assertEqual(OrderError.__bases__, (ValueError,))
        self.assertEqual(str(OrderError("why")), "why")

    def test_each_class_stands_directly_under_the_base(self):
        for name in FIELDS:
            with self.subTest(name):
                self.assertEqual(getattr(errors, name).__bases__, (OrderError,))

    def test_the_fields_by_position(self):
        for name, fields in FIELDS.items():
            with self.subTest(name):
                values = [object() if name == "LetBy" else f"x{k}" for k in range(len(fields))]
                error = getattr(errors, name)(*values)
                self.assertEqual([getattr(error, field) for field in fields], values)

    def test_the_fields_by_keyword(self):
        for name, fields in FIELDS.items():
            with self.subTest(name):
                error = getattr(errors, name)(**{field: field for field in fields})
                self.assertEqual([getattr(error, field) for field in fields], fields)

    def test_there_are_no_other_fields(self):
        for name, fields in FIELDS.items():
            with self.subTest(name):
                error = getattr(errors, name)(*fields)
                self.assertEqual(sorted(vars(error)), sorted(fields))

    def test_each_has_a_message(self):
        for name, fields in FIELDS.items():
            with self.subTest(name):
                self.assertTrue(str(getattr(errors, name)(*fields)))

    def test_the_message_copes_with_any_item(self):
        # Python refuses to write out an integer of that size.
        huge = 10 ** 5000
        self.assertTrue(str(errors.InvalidPair(huge)))
        self.assertTrue(str(errors.NotALine([huge])))
        self.assertTrue(str(errors.NotKept((huge,))))

    def test_they_are_raised_and_caught(self):
        with self.assertRaises(OrderError) as caught:
            raise errors.InvalidProgram(2, 5)
        self.assertEqual((caught.exception.thread, caught.exception.index), (2, 5))
