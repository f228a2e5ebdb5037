"""Section "Errors": which class derives from which, and what each keeps."""

import unittest

from treerooms import errors

MESSAGES = ("InvalidRoom", "InvalidWeb", "InvalidRoad", "InvalidWorld", "InvalidTable", "InvalidName", "InvalidOperation")
KEEPING = (
    ("ParseError", errors.TreeError, "at"),
    ("InvalidNumber", IndexError, "given"),
    ("UnknownName", KeyError, "wanted"),
    ("TooMany", OverflowError, "most"),
    ("Refused", ArithmeticError, "reason"),
    ("NothingToUndo", LookupError, "steps"),
)


class Errors(unittest.TestCase):
    def test_tree_error_derives_from_value_error(self):
        self.assertEqual(errors.TreeError.__bases__, (ValueError,))

    def test_those_with_a_message_derive_directly_from_tree_error(self):
        for name in MESSAGES:
            kind = getattr(errors, name)
            self.assertEqual(kind.__bases__, (errors.TreeError,), name)
            with self.assertRaises(kind):
                raise kind("a message")

    def test_those_that_keep_something_derive_as_told(self):
        for name, base, _ in KEEPING:
            self.assertEqual(getattr(errors, name).__bases__, (base,), name)

    def test_any_value_is_kept(self):
        for name, _, attribute in KEEPING:
            for value in (None, True, 0, -7, 10 ** 5000, "a", ("pairs", 1), [1], {"a": 1}, object()):
                error = getattr(errors, name)(value)
                self.assertIs(getattr(error, attribute), value, name)

    def test_what_is_kept_is_there_when_it_is_caught(self):
        for name, base, attribute in KEEPING:
            with self.assertRaises(base) as caught:
                raise getattr(errors, name)(("word", 3))
            self.assertEqual(getattr(caught.exception, attribute), ("word", 3))


if __name__ == "__main__":
    unittest.main()
