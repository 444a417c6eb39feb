"""Tests of bestheard.words: names, options, numbers and the names of cells."""

import string
import unittest

from bestheard import words
from bestheard.errors import BestError, InvalidCount
from bestheard.words import cell_names, is_name, is_number, is_option

NO_WORDS = (0, 1, -1, 10 ** 29, True, False, None, (), [], ("a",), ["a"], ["a", "b"], (("a",),),
            b"a", {"a": "b"}, {"a"}, object())
SIGNS = [sign for sign in map(chr, range(32, 127)) if not sign.isalnum()]
NEVER_ALLOWED = list(string.ascii_uppercase) + SIGNS + ["\n", "\t", "\r", "\0", "\xe9", "\xaa", "\xb2", "\u0661"]


def with_wrong(wrong):
    """Return words with a wrong character at each place, and alone."""
    return [wrong, wrong + "abc", "ab" + wrong + "cd", "abc" + wrong, wrong + "abcdefg",
            "abcd" + wrong + "fgh", "abcdefg" + wrong]


class NamesTest(unittest.TestCase):
    def test_lengths(self):
        for length in range(20):
            self.assertIs(is_name("a" * length), 1 <= length <= 8, length)
        self.assertIs(is_name("abcdefgh"), True)
        self.assertIs(is_name("abcdefghi"), False)
        self.assertIs(is_name("a" * 4000), False)

    def test_every_letter(self):
        for letter in string.ascii_lowercase:
            for word in (letter, letter + "bc", "a" + letter + "c", "ab" + letter):
                self.assertIs(is_name(word), True, word)

    def test_wrong_characters_at_each_place(self):
        for wrong in NEVER_ALLOWED + list(string.digits):
            for word in with_wrong(wrong):
                self.assertIs(is_name(word), False, repr(word))

    def test_values_of_other_kinds(self):
        for value in NO_WORDS:
            self.assertIs(is_name(value), False, repr(value))


class OptionsTest(unittest.TestCase):
    def test_lengths(self):
        for length in range(20):
            self.assertIs(is_option("a" * length), 1 <= length <= 8, length)
            self.assertIs(is_option("7" * length), 1 <= length <= 8, length)
        self.assertIs(is_option("a1b2c3d4"), True)
        self.assertIs(is_option("a1b2c3d4e"), False)

    def test_every_letter_and_digit(self):
        for character in string.ascii_lowercase + string.digits:
            for word in (character, character + "b1", "a" + character + "2", "1b" + character):
                self.assertIs(is_option(word), True, word)

    def test_wrong_characters_at_each_place(self):
        for wrong in NEVER_ALLOWED:
            for word in with_wrong(wrong):
                self.assertIs(is_option(word), False, repr(word))

    def test_values_of_other_kinds(self):
        for value in NO_WORDS:
            self.assertIs(is_option(value), False, repr(value))


class NumbersTest(unittest.TestCase):
    def test_bounds(self):
        found = [value for value in range(-3, 10) if is_number(value, 2, 5)]
        self.assertEqual(found, [2, 3, 4, 5])
        self.assertIs(is_number(10 ** 29, 0, 10 ** 29), True)

    def test_values_of_other_kinds(self):
        for value in (True, False, None, "1", (1,), [1], b"1"):
            self.assertIs(is_number(value, 0, 5), False, repr(value))


class CellNamesTest(unittest.TestCase):
    def test_lengths(self):
        for many in (0, 1, 2, 25, 26, 27, 28, 701, 702, 703, 704, 1999, 2000):
            names = cell_names(many)
            self.assertIsInstance(names, list)
            self.assertEqual(len(names), many)
            self.assertEqual(len(set(names)), many)

    def test_the_whole_sequence(self):
        letters = string.ascii_lowercase
        expected = list(letters) + [a + b for a in letters for b in letters]
        expected += [a + b + c for a in letters for b in letters for c in letters]
        for many in (0, 1, 26, 27, 702, 703, 2000):
            self.assertEqual(cell_names(many), expected[:many])

    def test_edges(self):
        self.assertEqual(cell_names(0), [])
        self.assertEqual(cell_names(1), ["a"])
        self.assertEqual(cell_names(26)[-1], "z")
        self.assertEqual(cell_names(27)[-2:], ["z", "aa"])
        self.assertEqual(cell_names(53)[-2:], ["az", "ba"])
        self.assertEqual(cell_names(702)[-1], "zz")
        self.assertEqual(cell_names(703)[-2:], ["zz", "aaa"])
        self.assertEqual(cell_names(2000)[-1], "bxx")

    def test_they_are_names(self):
        self.assertTrue(all(is_name(name) for name in cell_names(2000)))

    def test_each_call_returns_a_new_list(self):
        names = cell_names(3)
        names.append("x")
        self.assertEqual(cell_names(3), ["a", "b", "c"])

    def test_wrong_numbers(self):
        wrong = (-1, -2, 2001, 10 ** 29, -10 ** 29, True, False, None, "", "1", "a", (), (1,), [], [1])
        for many in wrong:
            with self.assertRaises(InvalidCount) as caught:
                cell_names(many)
            self.assertEqual(caught.exception.given, many)
            self.assertIs(caught.exception.given.__class__, many.__class__)
            self.assertEqual(caught.exception.code, "InvalidCount")
            self.assertIsInstance(caught.exception, BestError)


class InterfaceTest(unittest.TestCase):
    def test_arguments_may_be_passed_by_name(self):
        self.assertEqual(is_name(value="a"), True)
        self.assertEqual(is_option(value="1"), True)
        self.assertEqual(cell_names(many=1), ["a"])

    def test_the_functions_are_defined_in_this_file(self):
        for name in ("is_name", "is_option", "cell_names"):
            self.assertEqual(getattr(words, name).__module__, "bestheard.words")

    def test_arguments_are_not_changed(self):
        value = ["a", ["b"]]
        is_name(value)
        is_option(value)
        self.assertRaises(InvalidCount, cell_names, value)
        self.assertEqual(value, ["a", ["b"]])


if __name__ == "__main__":
    unittest.main()
