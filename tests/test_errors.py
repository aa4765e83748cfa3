"""Promises [1.1] and [1.2]: the errors, their kinds and what they keep."""

import unittest

from tests.samples import ODD, ODD_TUPLES, WHEEL
from wheelgrown import errors

PLAIN = (
    "InvalidPlace", "InvalidTie", "InvalidWeb", "InvalidRoute", "InvalidStep", "InvalidGrowth", "InvalidPart",
    "InvalidDrawing", "InvalidModel", "InvalidOperation",
)
KEEPING = {
    "UnknownName": (KeyError, "word"), "Parted": (LookupError, "parting"), "InvalidNumber": (IndexError, "value"),
    "NothingToUndo": (RuntimeError, "many"), "TooMany": (OverflowError, "limit"), "Refused": (ArithmeticError, "pledge"),
}
ALL = PLAIN + tuple(KEEPING) + ("ParseError", "WebError")
BUILTIN = (KeyError, LookupError, IndexError, RuntimeError, OverflowError, ArithmeticError, ValueError, TypeError)
VALUES = ODD + ODD_TUPLES + ((), "a", ("a", "b"), WHEEL)


def made(name):
    return getattr(errors, name)("b")


def is_caught(error, kind):
    try:
        raise error
    except kind:
        return True
    except Exception:
        return False


class ErrorsTest(unittest.TestCase):
    def test_direct_bases(self):
        self.assertEqual(errors.WebError.__bases__, (ValueError,))
        for name in PLAIN + ("ParseError",):
            self.assertEqual(getattr(errors, name).__bases__, (errors.WebError,), name)
        for name, (base, _) in KEEPING.items():
            self.assertEqual(getattr(errors, name).__bases__, (base,), name)

    def test_all_are_defined_in_the_module(self):
        for name in ALL:
            self.assertEqual(getattr(errors, name).__module__, "wheelgrown.errors")
            self.assertEqual(getattr(errors, name).__name__, name)

    def test_caught_by_own_name_and_kind_and_no_other(self):
        for name in ALL:
            for other in ALL:
                right = name == other or (other == "WebError" and name in PLAIN + ("ParseError",))
                self.assertEqual(is_caught(made(name), getattr(errors, other)), right, (name, other))

    def test_caught_by_the_kinds_of_python(self):
        for name in ALL:
            kind = KEEPING[name][0] if name in KEEPING else ValueError
            for other in BUILTIN:
                self.assertEqual(is_caught(made(name), other), issubclass(kind, other), (name, other))

    def test_kept_values(self):
        for name, (_, kept) in KEEPING.items():
            for value in VALUES:
                self.assertIs(getattr(getattr(errors, name)(value), kept), value)
                self.assertIs(getattr(getattr(errors, name)(**{kept: value}), kept), value)

    def test_parse_error_keeps_its_number(self):
        for number in (None, 0, 1, 75):
            self.assertIs(errors.ParseError(number).number, number)

    def test_kept_values_of_raised_errors(self):
        for name, (_, kept) in KEEPING.items():
            for value in VALUES:
                with self.assertRaises(getattr(errors, name)) as caught:
                    raise getattr(errors, name)(value)
                self.assertIs(getattr(caught.exception, kept), value)

    def test_plain_errors_take_a_message(self):
        for name in PLAIN + ("WebError",):
            self.assertEqual(getattr(errors, name)("some message").args, ("some message",))


if __name__ == "__main__":
    unittest.main()
