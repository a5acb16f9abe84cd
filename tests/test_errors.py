"""The interface's refusals."""

import unittest

from oneslate import errors

NAMES = [
    "NoRule", "NoHall", "NoDeed", "Over", "Busy", "NoAsker",
    "NoLetter", "NoTick", "NoWish", "NoText", "NoRow",
]


class ErrorsTest(unittest.TestCase):

    def test_any_refusal_is_a_value_error(self):
        self.assertEqual(errors.SlateError.__bases__, (ValueError,))

    def test_each_is_straight_under_slate_error(self):
        for name in NAMES:
            with self.subTest(name):
                self.assertEqual(getattr(errors, name).__bases__, (errors.SlateError,))

    def test_none_is_under_another_one(self):
        classes = [getattr(errors, name) for name in NAMES]
        self.assertEqual(len(set(classes)), len(NAMES))
        for one in classes:
            for other in classes:
                self.assertEqual(issubclass(one, other), one is other)

    def test_each_is_taken_as_any_refusal_and_by_its_own_name(self):
        for name in NAMES:
            kind = getattr(errors, name)
            for taken in (kind, errors.SlateError, ValueError):
                with self.assertRaises(taken):
                    raise kind("why")


if __name__ == "__main__":
    unittest.main()
