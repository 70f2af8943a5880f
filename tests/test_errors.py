"""The refusals: every class that the interface names, right under WireError."""

import copy
import unittest

from bothwire import errors

NAMES = (
    "NoNumber", "NoState", "NoGate", "NoWire", "NoText", "TooMany",
    "NoCircuit", "NoTable", "NoTurning", "NoCode", "NoRow",
)


class ErrorClasses(unittest.TestCase):
    def test_wire_error_is_right_under_value_error(self):
        self.assertEqual(errors.WireError.__bases__, (ValueError,))

    def test_each_is_right_under_wire_error(self):
        for name in NAMES:
            with self.subTest(name=name):
                self.assertEqual(getattr(errors, name).__bases__, (errors.WireError,))

    def test_each_is_defined_in_its_file_under_its_name(self):
        for name in NAMES + ("WireError",):
            with self.subTest(name=name):
                self.assertEqual(getattr(errors, name).__module__, "bothwire.errors")
                self.assertEqual(getattr(errors, name).__name__, name)

    def test_none_is_caught_as_another(self):
        for name in NAMES:
            for other in NAMES:
                if name != other:
                    self.assertFalse(issubclass(getattr(errors, name), getattr(errors, other)), (name, other))

    def test_each_but_no_text_is_raised_with_a_text(self):
        for name in NAMES + ("WireError",):
            if name != "NoText":
                with self.assertRaises(errors.WireError) as caught:
                    raise getattr(errors, name)("why")
                self.assertEqual(str(caught.exception), "why")

    def test_no_text_has_its_row(self):
        for row in (0, 1, 7, 4001, 10 ** 5000):
            self.assertEqual(errors.NoText(row).row, row)

    def test_each_no_text_has_a_row_of_its_own(self):
        one, other = errors.NoText(1), errors.NoText(2)
        self.assertEqual((one.row, other.row), (1, 2))

    def test_no_text_asks_for_one_row(self):
        with self.assertRaises(TypeError):
            errors.NoText()
        with self.assertRaises(TypeError):
            errors.NoText(1, 2)

    def test_no_text_is_raised_and_shown_with_its_row(self):
        with self.assertRaises(errors.WireError) as caught:
            raise errors.NoText(12)
        self.assertEqual(caught.exception.row, 12)
        self.assertIn("12", str(caught.exception))
        self.assertEqual(copy.copy(caught.exception).row, 12)


if __name__ == "__main__":
    unittest.main()
