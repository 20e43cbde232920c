"""Point 1 and the heading rulevoices/errors.py."""

import unittest

from rulevoices import errors

PLAIN = (
    "BadWay", "BadPromise", "BadPromises", "BadNumber", "NotParts", "NotNow", "NotText",
    "InvalidText", "NothingToUndo",
)
WITH_INDEX = ("BadRow", "BadTable")


class ErrorsTest(unittest.TestCase):
    def test_base_class(self):
        self.assertEqual(errors.VoiceError.__bases__, (ValueError,))
        self.assertEqual(errors.VoiceError.__module__, "rulevoices.errors")

    def test_all_errors_are_direct_subclasses(self):
        for name in PLAIN + WITH_INDEX:
            error = getattr(errors, name)
            self.assertEqual(error.__bases__, (errors.VoiceError,), name)
            self.assertEqual(error.__name__, name)
            self.assertEqual(error.__module__, "rulevoices.errors")

    def test_there_are_no_others(self):
        subclasses = {error.__name__ for error in errors.VoiceError.__subclasses__()}
        self.assertEqual(subclasses, set(PLAIN + WITH_INDEX))

    def test_errors_without_fields(self):
        for name in PLAIN:
            error = getattr(errors, name)("told")
            self.assertEqual(vars(error), {}, name)
            self.assertEqual(str(error), "told")

    def test_errors_with_an_index(self):
        for name in WITH_INDEX:
            for index in (None, 0, 3, 13):
                error = getattr(errors, name)(index)
                self.assertEqual(vars(error), {"index": index}, name)
                self.assertIsInstance(str(error), str)

    def test_each_object_has_its_own_index(self):
        first = errors.BadRow(1)
        errors.BadRow(2)
        self.assertEqual(first.index, 1)
        self.assertFalse(hasattr(errors.BadRow, "index"))
        self.assertFalse(hasattr(errors.BadTable, "index"))


if __name__ == "__main__":
    unittest.main()
