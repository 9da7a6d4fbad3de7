import unittest

from castchains import errors
from castchains.errors import CastError

NAMES = ["InvalidStep", "InvalidForm", "InvalidNumber", "InvalidRange",
         "ChangedNumber", "NothingToUndo", "Unreadable"]
VALUES = [0, 7, -10 ** 30, None, (5, 3), "u0", ""]


class ErrorsTest(unittest.TestCase):
    def test_value_by_position_and_by_name(self):
        for name in NAMES:
            made = getattr(errors, name)
            for value in VALUES:
                with self.subTest(name=name, value=value):
                    self.assertEqual(made(value).value, value)
                    self.assertEqual(made(value=value).value, value)

    def test_exactly_one_argument(self):
        for name in NAMES:
            made = getattr(errors, name)
            with self.subTest(name=name):
                with self.assertRaises(TypeError):
                    made()
                with self.assertRaises(TypeError):
                    made(1, 2)

    def test_direct_subclasses(self):
        self.assertEqual(CastError.__bases__, (ValueError,))
        for name in NAMES:
            with self.subTest(name=name):
                self.assertEqual(getattr(errors, name).__bases__, (CastError,))

    def test_of_no_other_class(self):
        for name in NAMES:
            error = getattr(errors, name)(3)
            for other in NAMES:
                with self.subTest(name=name, other=other):
                    self.assertEqual(isinstance(error, getattr(errors, other)), name == other)

    def test_raised_and_caught(self):
        for name in NAMES:
            made = getattr(errors, name)
            for caught in (made, CastError, ValueError):
                with self.subTest(name=name, caught=caught):
                    with self.assertRaises(caught) as context:
                        raise made(4)
                    self.assertEqual(context.exception.value, 4)

    def test_made_in_one_init_each(self):
        for name in NAMES:
            with self.subTest(name=name):
                self.assertIn("__init__", vars(getattr(errors, name)))


if __name__ == "__main__":
    unittest.main()
