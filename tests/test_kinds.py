"""[21]: kinds, and of [2] the definitions of an integer, a name and a word."""

import unittest

from factflows.kinds import is_integer, is_name, is_number, is_word
from tests.helper import odd_values


class KindsTest(unittest.TestCase):
    def test_integers(self):
        for thing in (0, 1, -1, 7, 2 ** 100, -2 ** 100):
            self.assertIs(is_integer(thing), True, thing)
        for thing in (True, False, None, "1", "", b"1", (1,), [1], {}, {1}, int, range(1), object()):
            self.assertIs(is_integer(thing), False, thing)

    def test_names(self):
        for thing in ("a", "z", "az", "abcdefgh", "zzzzzzzz", "aaaaaaaa"):
            self.assertIs(is_name(thing), True, thing)
        wrong = ("", "abcdefghi", "A", "aB", "a ", " a", "a1", "1", "a_", "-", "a\n", "\n", "`", "{", "\xe9", "\xdf",
                 "\u0430", "a" * 5000, None, True, 0, b"a", ("a",), ["a"], {"a": 1}, {"a"}, str)
        for thing in wrong:
            self.assertIs(is_name(thing), False, thing)

    def test_each_letter_is_one_and_no_other_sign(self):
        letters = "abcdefghijklmnopqrstuvwxyz"
        for code in range(300):
            self.assertIs(is_name(chr(code)), chr(code) in letters)
            self.assertIs(is_name("ab" + chr(code)), chr(code) in letters)

    def test_words(self):
        for thing in ((), ("a",), ("a", "a"), ("abcdefgh", "b"), ("a",) * 5000):
            self.assertIs(is_word(thing), True, thing)
        wrong = (["a"], [], "a", "", None, True, 0, ("a", ""), ("A",), ("a", 1), ("a", None), (("a",),), (True,),
                 {"a": 1}, {"a"}, ("a", "b", "toolongname"), ("a",) * 5000 + ("",), b"a")
        for thing in wrong:
            self.assertIs(is_word(thing), False, thing)

    def test_numbers(self):
        self.assertEqual([is_number(3, thing) for thing in (-1, 0, 1, 2, 3, 2 ** 70)],
                         [False, True, True, True, False, False])
        for many in (0, 1, 2, 64, 2 ** 70, -1):
            self.assertIs(is_number(many, many), False)
            self.assertIs(is_number(many, many - 1), many > 0)
            self.assertIs(is_number(many, -1), False)
        for thing in (True, False, None, "0", (0,), [0], b"0", {}):
            self.assertIs(is_number(5, thing), False, thing)

    def test_any_value_has_an_answer(self):
        for thing in odd_values():
            for answer in (is_integer(thing), is_name(thing), is_word(thing), is_number(9, thing)):
                self.assertIsInstance(answer, bool)


if __name__ == "__main__":
    unittest.main()
