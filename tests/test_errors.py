"""[0.6]: the error classes."""

import unittest

from rowsteps import errors

NAMES = [
    "BadTable", "BadNumber", "BadPlace", "BadDevice", "BadState", "BadLot",
    "TooLarge", "BadText", "BadPaper", "NotAlike", "TooLong", "BadKind",
]


class ErrorsTest(unittest.TestCase):
    def test_the_base_class_is_a_value_error(self):
        self.assertEqual(errors.RowstepsError.__bases__, (ValueError,))
        self.assertEqual(errors.RowstepsError.__module__, "rowsteps.errors")

    def test_each_class_is_derived_from_the_base_class_alone(self):
        for name in NAMES:
            with self.subTest(name=name):
                found = getattr(errors, name)
                self.assertEqual(found.__bases__, (errors.RowstepsError,))
                self.assertEqual(found.__module__, "rowsteps.errors")
                self.assertEqual(found.__name__, name)
                self.assertTrue(issubclass(found, ValueError))

    def test_none_is_derived_from_another(self):
        found = [getattr(errors, name) for name in NAMES]
        self.assertEqual(len(set(found)), len(NAMES))
        for one in found:
            self.assertFalse(issubclass(errors.RowstepsError, one))
            for other in found:
                if one is not other:
                    self.assertFalse(issubclass(one, other))

    def test_they_are_caught_by_name_and_by_both_bases(self):
        for name in NAMES:
            found = getattr(errors, name)
            for base in (found, errors.RowstepsError, ValueError):
                with self.subTest(name=name, base=base), self.assertRaises(base):
                    raise found("words")


if __name__ == "__main__":
    unittest.main()
