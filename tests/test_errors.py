"""The interface of anyscribe.errors."""

import unittest

from anyscribe import errors

FIELDS = {
    "BadLetters": None, "BadText": None, "BadKinds": None, "BadDeed": None, "TooLong": "most", "BadReader": None,
    "Unlike": None, "TooMany": "most", "BadNumber": None, "NotText": None, "InvalidText": "place",
    "NoLetter": "letter", "Unknown": "name", "Twice": "name", "BadKind": None, "BadLots": None, "NoWay": None,
    "NotApart": None, "BadMender": None, "BadTexts": None, "BadReaders": None, "NothingDone": None,
    "InvalidDesk": "at",
}


class ErrorsTest(unittest.TestCase):
    def test_base(self):
        self.assertEqual(errors.ScribeError.__bases__, (ValueError,))

    def test_all_are_direct_subclasses(self):
        for name in FIELDS:
            self.assertEqual(getattr(errors, name).__bases__, (errors.ScribeError,), name)

    def test_there_are_no_others(self):
        self.assertEqual({kind.__name__ for kind in errors.ScribeError.__subclasses__()}, set(FIELDS))

    def test_fields_are_set_when_created(self):
        for name, field in FIELDS.items():
            kind = getattr(errors, name)
            if field is None:
                self.assertEqual(vars(kind()), {}, name)
            else:
                self.assertEqual(vars(kind(7)), {field: 7}, name)
                self.assertEqual(vars(kind(**{field: "B"})), {field: "B"}, name)
                self.assertRaises(TypeError, kind)

    def test_caught_as_value_errors(self):
        for name, field in FIELDS.items():
            with self.assertRaises(ValueError):
                raise getattr(errors, name)(*([] if field is None else [1]))


if __name__ == "__main__":
    unittest.main()
