import unittest

from draw import values_with_programs
from heldnames import errors

VALUED = [
    errors.InvalidList, errors.InvalidItem, errors.InvalidProgram, errors.InvalidWord, errors.InvalidPlace,
    errors.InvalidRun, errors.InvalidCells, errors.InvalidText,
]
NAMED = [errors.InvalidName, errors.TakenName, errors.UnknownName]


class Errors(unittest.TestCase):
    """[5]"""

    def test_bases(self):
        self.assertEqual(errors.HeldError.__bases__, (ValueError,))
        for kind in VALUED + NAMED + [errors.NothingToUndo]:
            self.assertEqual(kind.__bases__, (errors.HeldError,))
            self.assertEqual(kind.__module__, "heldnames.errors")

    def test_there_are_twelve_of_them(self):
        self.assertEqual(len({kind.__name__ for kind in VALUED + NAMED + [errors.NothingToUndo]}), 12)

    def test_field_value(self):
        for kind in VALUED:
            for value in values_with_programs():
                self.assertIs(kind(value).value, value)
                self.assertIs(kind(value=value).value, value)
            self.assertIsNone(kind().value)

    def test_field_name(self):
        for kind in NAMED:
            for value in values_with_programs():
                self.assertIs(kind(value).name, value)
                self.assertIs(kind(name=value).name, value)
            self.assertIsNone(kind().name)

    def test_fields_are_of_one_kind(self):
        for kind in VALUED:
            self.assertFalse(hasattr(kind(), "name"))
            self.assertRaises(TypeError, lambda: kind(name=1))
        for kind in NAMED:
            self.assertFalse(hasattr(kind(), "value"))
            self.assertRaises(TypeError, lambda: kind(value=1))

    def test_nothing_to_undo(self):
        error = errors.NothingToUndo()
        self.assertFalse(hasattr(error, "value"))
        self.assertFalse(hasattr(error, "name"))

    def test_they_can_be_raised_and_shown(self):
        for kind in VALUED + NAMED + [errors.NothingToUndo]:
            with self.assertRaises(errors.HeldError):
                raise kind()
            self.assertIsInstance(str(kind()), str)


if __name__ == "__main__":
    unittest.main()
