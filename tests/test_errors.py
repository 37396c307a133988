"""The classes of errors: their names, and what each stands straight under."""

import unittest

from sumsapart import errors

NAMES = ("BadPrime", "BadNumber", "BadMarks", "NoMark", "NotApart")


class ErrorClasses(unittest.TestCase):
    def test_mark_error_stands_straight_under_value_error(self):
        self.assertEqual(errors.MarkError.__bases__, (ValueError,))

    def test_each_other_stands_straight_under_mark_error(self):
        for name in NAMES:
            with self.subTest(name=name):
                self.assertEqual(getattr(errors, name).__bases__, (errors.MarkError,))

    def test_each_is_defined_in_its_file(self):
        for name in ("MarkError",) + NAMES:
            with self.subTest(name=name):
                self.assertEqual(getattr(errors, name).__module__, "sumsapart.errors")
                self.assertEqual(getattr(errors, name).__name__, name)

    def test_each_is_caught_as_itself_and_as_mark_error_only(self):
        for name in NAMES:
            for other in NAMES:
                with self.subTest(name=name, other=other):
                    refusal = getattr(errors, name)("no")
                    self.assertIsInstance(refusal, errors.MarkError)
                    self.assertEqual(isinstance(refusal, getattr(errors, other)), name == other)


if __name__ == "__main__":
    unittest.main()
