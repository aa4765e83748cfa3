"""Promises [0.1], [0.7] and stage 1: integers, names and dicts to other names."""

import unittest

from tests.samples import NOT_NAMES, NOT_TUPLES, ODD, ODD_TUPLES, WHEEL, check_error, nested
from wheelgrown.base.words import MAX_FIGURES, MAX_LETTERS, are_ascending_names, are_names
from wheelgrown.base.words import is_count, is_integer, is_name, is_naming
from wheelgrown.errors import InvalidPlace

LONG = 10 ** 59
NO_INTEGERS = (None, True, False, "", "1", "a", (), (1,), [1], {1: 1}, WHEEL, nested(8))
BEYOND = (10 ** 60, -10 ** 60, 10 ** 60 + 1, 10 ** 99, -10 ** 99)


class WordsTest(unittest.TestCase):
    def test_the_examples(self):
        self.assertEqual(
            [is_integer(-7), is_count(True), is_name("ab1"), are_names(()), are_names(("b", "a", "b")),
             is_naming(("a", "b"), {"a": "b", "b": "a"})],
            [True, False, False, True, True, True])

    def test_constants(self):
        self.assertEqual((MAX_LETTERS, MAX_FIGURES), (8, 60))
        self.assertTrue(is_name("a" * MAX_LETTERS))
        self.assertTrue(is_integer(int("9" * MAX_FIGURES)))

    def test_integers(self):
        for value in (0, 1, -1, LONG, -LONG, 10 ** 60 - 1, 1 - 10 ** 60):
            self.assertIs(is_integer(value), True)
        for value in NO_INTEGERS + BEYOND:
            self.assertIs(is_integer(value), False)

    def test_counts(self):
        for value in (0, 1, LONG, 10 ** 60 - 1):
            self.assertIs(is_count(value), True)
        for value in NO_INTEGERS + BEYOND + (-1, -LONG):
            self.assertIs(is_count(value), False)

    def test_names(self):
        for value in ("a", "z", "ab", "abcdefgh", "zzzzzzzz"):
            self.assertIs(is_name(value), True)
        for value in NOT_NAMES:
            self.assertIs(is_name(value), False)
        for value in ("abcdefghi", "", "`", "{", "a-b", "aB", "Z", "a\n", "\n", " a", "a ", "\u00e4", "\uff41"):
            self.assertIs(is_name(value), False)

    def test_tuples_of_names(self):
        for value in ((), ("a",), ("b", "a", "b"), ("abcdefgh",), ("a",) * 100):
            self.assertIs(are_names(value), True)
        for value in NOT_TUPLES + ODD_TUPLES + (("a", "abcdefghi"), ["a"], "ab"):
            self.assertIs(are_names(value), False)

    def test_ascending_names(self):
        for value in ((), ("a",), ("a", "b"), ("a", "aa", "ab", "b")):
            self.assertIs(are_ascending_names(value), True)
        for value in NOT_TUPLES + ODD_TUPLES + (("b", "a"), ("a", "a"), ("a", "b", "b")):
            self.assertIs(are_ascending_names(value), False)

    def test_namings(self):
        for names, value in (((), {}), (("a",), {"a": "a"}), (("b", "a", "b"), {"a": "c", "b": "abcdefgh"}),
                             (("a", "b"), {"b": "a", "a": "b"})):
            self.assertIs(is_naming(names, value), True)

    def test_no_namings(self):
        wrong = (
            {"a": "b"}, {"a": "b", "c": "d"}, {"a": "b", "b": "c", "c": "d"}, {"a": "c", "b": "c"}, {"a": "c", "b": "C"},
            {"a": "c", "b": "abcdefghi"}, {"a": "c", "b": None}, {"a": ["c"], "b": "d"}, {"a": {"c": "d"}, "b": "d"},
            {"a": WHEEL, "b": "c"}, {"a": "c", None: "d"}, {"a": "c", ("b",): "d"}, {"a": "c", 1: "d"}, {"a": 1, "b": True},
            (("a", "c"), ("b", "d")), [("a", "c"), ("b", "d")],
        )
        for value in wrong + ODD_TUPLES + tuple(value for value in ODD if value != {"a": "b", "b": "a"}):
            self.assertIs(is_naming(("a", "b"), value), False, value)
            self.assertIs(is_naming(("b", "a", "b"), value), False, value)
        self.assertIs(is_naming((), {"a": "b"}), False)
        self.assertIs(is_naming(("a",), {}), False)

    def test_no_tuple_of_names_for_a_naming(self):
        for names in NOT_TUPLES + ODD_TUPLES:
            for value in ({}, {"a": "b"}, None, 7):
                check_error(self, InvalidPlace, is_naming, names, value)

    def test_arguments_are_unchanged(self):
        value = {"b": "c", "a": "d"}
        is_naming(("a", "b"), value)
        self.assertEqual(list(value.items()), [("b", "c"), ("a", "d")])


if __name__ == "__main__":
    unittest.main()
