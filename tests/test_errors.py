"""Point 3: the error classes and their fields."""

import unittest

from onceread import errors
from onceread.errors import BadRow, OnceError

FIELDS = {
    "BadWorld": None, "NoSuchRelation": "name", "BadRow": "row", "BadOrder": None,
    "BadQuestion": None, "BadText": "place", "BadValues": None, "Unvalued": "variable",
    "NotAWalk": None, "BadJudge": None, "BadGiven": None, "BadStanding": None,
    "TooMany": "limit", "BadSide": "side", "NotRight": None, "TooLarge": None,
    "TooLong": "length", "TakenName": "name", "UnknownWatch": "name", "NothingToUndo": None,
    "BadDeed": None, "NoSuchWord": "word", "BadNote": "line", "BadLetter": "letter",
}


class ErrorClasses(unittest.TestCase):
    def test_once_error_is_a_value_error(self):
        self.assertTrue(issubclass(OnceError, ValueError))
        self.assertEqual(OnceError.__bases__, (ValueError,))

    def test_all_are_once_errors(self):
        for name in FIELDS:
            with self.subTest(name):
                self.assertTrue(issubclass(getattr(errors, name), OnceError))

    def test_none_is_a_subclass_of_another(self):
        for name in FIELDS:
            for other in FIELDS:
                if name != other:
                    with self.subTest(name, other=other):
                        self.assertFalse(issubclass(getattr(errors, name), getattr(errors, other)))

    def test_no_other_classes(self):
        found = {name for name, value in vars(errors).items() if isinstance(value, type)}
        self.assertEqual(found, set(FIELDS) | {"OnceError"})

    def test_without_fields(self):
        for name, field in FIELDS.items():
            if field is None:
                with self.subTest(name):
                    made = getattr(errors, name)()
                    self.assertIsInstance(made, OnceError)
                    self.assertEqual(vars(made), {})

    def test_fields_keep_what_was_handed_in(self):
        for name, field in FIELDS.items():
            if field is not None and name != "BadRow":
                for value in ("edge", 7, None, [1, [2]], (0, 1), True):
                    with self.subTest(name, value=value):
                        made = getattr(errors, name)(value)
                        self.assertIs(getattr(made, field), value)
                        named = getattr(errors, name)(**{field: value})
                        self.assertIs(getattr(named, field), value)

    def test_bad_row_keeps_a_tuple(self):
        for value in ((0, 1), [0, 1], [], (), [True, None, "a"]):
            with self.subTest(value=value):
                self.assertIsInstance(BadRow(value).row, tuple)
                self.assertEqual(BadRow(value).row, tuple(value))

    def test_bad_row_that_is_no_sequence(self):
        for value in (None, 5, "ab", True):
            with self.subTest(value=value):
                self.assertIs(BadRow(value).row, value)

    def test_can_be_raised_and_caught(self):
        for name, field in FIELDS.items():
            with self.subTest(name):
                made = getattr(errors, name)
                with self.assertRaises(OnceError):
                    raise made() if field is None else made(3)


if __name__ == "__main__":
    unittest.main()
