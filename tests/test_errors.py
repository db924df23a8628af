"""The error classes of the interface."""

import copy
import unittest

from neverleaves import errors

NAMES = (
    "InvalidExpression", "InvalidPlant", "InvalidArena", "InvalidGoal", "BadText",
    "NoPosition", "Held", "NotHeld", "BadReply", "Lost",
)


class ErrorClasses(unittest.TestCase):
    def test_the_base_class_is_a_value_error(self):
        self.assertEqual(errors.ControlError.__bases__, (ValueError,))

    def test_each_class_is_a_direct_subclass_of_the_base_class(self):
        for name in NAMES:
            with self.subTest(name):
                self.assertEqual(getattr(errors, name).__bases__, (errors.ControlError,))

    def test_each_class_is_defined_in_this_file_under_its_name(self):
        for name in NAMES + ("ControlError",):
            with self.subTest(name):
                self.assertEqual(getattr(errors, name).__module__, "neverleaves.errors")
                self.assertEqual(getattr(errors, name).__name__, name)

    def test_the_others_are_raised_with_one_string(self):
        for name in NAMES:
            if name == "BadText":
                continue
            with self.subTest(name):
                with self.assertRaises(errors.ControlError) as caught:
                    raise getattr(errors, name)("why it is so")
                self.assertIs(type(caught.exception), getattr(errors, name))
                self.assertEqual(str(caught.exception), "why it is so")

    def test_bad_text_has_its_line_and_its_column(self):
        error = errors.BadText(3, 14)
        self.assertEqual((error.line, error.column), (3, 14))
        self.assertIsInstance(error, ValueError)

    def test_a_copy_of_bad_text_is_like_it(self):
        error = copy.copy(errors.BadText(3, 14))
        self.assertIs(type(error), errors.BadText)
        self.assertEqual((error.line, error.column), (3, 14))


if __name__ == "__main__":
    unittest.main()
