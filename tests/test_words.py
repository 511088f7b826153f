"""Points 2 and 10 to 12: whole numbers, names, plain writings, letters."""

import unittest

from bookplaces.errors import NoNumber
from bookplaces.words import is_name, is_whole, letter_of, number_in, part_in
from tests.checks import NO_NUMBERS, refused


class WholeNumbers(unittest.TestCase):
    def test_bounds_are_with(self):
        for low, high in ((0, 3), (-5, -2), (-1, 1), (1, 1), (0, 0), (10 ** 29, 10 ** 30 - 1)):
            self.assertIs(is_whole(low, low, high), True)
            self.assertIs(is_whole(high, low, high), True)
            self.assertIs(is_whole((low + high) // 2, low, high), True)
            self.assertIs(is_whole(low - 1, low, high), False)
            self.assertIs(is_whole(high + 1, low, high), False)

    def test_low_above_high_takes_nothing(self):
        for low, high in ((1, 0), (5, 2), (0, -1), (10 ** 30 - 1, 0)):
            for thing in (low, high, 3, 0, 1, True, "a", None):
                self.assertIs(is_whole(thing, low, high), False)

    def test_true_and_false_are_none(self):
        for thing in (True, False):
            self.assertIs(is_whole(thing, 0, 1), False)
            self.assertIs(is_whole(thing, -10, 10), False)

    def test_other_kinds_are_none(self):
        for thing in NO_NUMBERS:
            self.assertIs(is_whole(thing, -10, 10), False)


class Names(unittest.TestCase):
    def test_names(self):
        for name in ("a", "z", "gen", "aaaaaa", "zzzzzz", "abcdef", "ghijkl", "mnopqr", "stuvwx", "yz"):
            self.assertIs(is_name(name), True, name)

    def test_too_short_and_too_long(self):
        for thing in ("", "aaaaaaa", "a" * 4000):
            self.assertIs(is_name(thing), False)

    def test_each_other_sign_is_refused_wherever_it_stands(self):
        for code in range(32, 127):
            sign = chr(code)
            small = "a" <= sign <= "z"
            for thing in (sign, sign + "a", "a" + sign, "a" + sign + "a", "aaaaa" + sign):
                self.assertIs(is_name(thing), small, thing)

    def test_line_feed_is_no_letter(self):
        for thing in ("\n", "gen\n", "\ngen", "ge\nn"):
            self.assertIs(is_name(thing), False)

    def test_signs_beyond_ascii_are_no_letters(self):
        for thing in ("\u00e4", "ge\u00f1", "\u03b1", "\u0430"):
            self.assertIs(is_name(thing), False)

    def test_other_kinds_are_none(self):
        for thing in (0, 1, -1, True, False, None, (), ("a",), [], ["a"], ["g", "e", "n"], {}, {"a": 1}):
            self.assertIs(is_name(thing), False)


class PlainNumbers(unittest.TestCase):
    def test_plainly_written(self):
        for text, number in (("0", 0), ("1", 1), ("7", 7), ("10", 10), ("9999", 9999), ("100", 100)):
            found = number_in(text, 0, 9999)
            self.assertEqual(found, number)
            self.assertIs(type(found), int)

    def test_all_numbers_there_and_back(self):
        for number in range(1200):
            self.assertEqual(number_in(str(number), 0, 1200), number)

    def test_no_nought_ahead(self):
        for text in ("00", "007", "01", "000", "0" * 30, "09", "0" + "1" * 29):
            self.assertIsNone(number_in(text, 0, 10 ** 30))

    def test_signs_that_are_no_figures(self):
        for text in ("", "-1", "-0", "+1", " 1", "1 ", "1\n", "\n1", "1 0", "1_0", "1.0", "1e3", "0x1", "a", "1a",
                     "a1", "-", "+", " ", "\u0661", "\u00b2", "1\u0660", "\uff11"):
            self.assertIsNone(number_in(text, -10 ** 30, 10 ** 30), text)

    def test_thirty_figures_and_thirty_one(self):
        for text in ("9" * 30, "1" + "0" * 29):
            self.assertEqual(number_in(text, 0, 10 ** 40), int(text))
        for text in ("9" * 31, "1" + "0" * 30, "1" * 4000):
            self.assertIsNone(number_in(text, 0, 10 ** 40))

    def test_bounds_are_with(self):
        for low, high in ((0, 0), (0, 9), (5, 12), (9, 10), (100, 999)):
            for number in range(1100):
                wanted = number if low <= number <= high else None
                self.assertEqual(number_in(str(number), low, high), wanted)

    def test_low_above_high_takes_nothing(self):
        for text in ("0", "1", "2", "3"):
            self.assertIsNone(number_in(text, 3, 0))

    def test_low_below_nought(self):
        self.assertEqual(number_in("0", -3, 3), 0)
        self.assertIsNone(number_in("0", -3, -1))

    def test_other_kinds(self):
        for thing in (0, 1, -1, True, False, None, (), ("1",), [], ["1"], {}, {"1": 1}):
            self.assertIsNone(number_in(thing, 0, 10))


class Letters(unittest.TestCase):
    def test_there_and_back(self):
        self.assertEqual([letter_of(part) for part in (1, 2, 3, 4)], ["a", "b", "c", "d"])
        self.assertEqual([part_in(letter) for letter in ("a", "b", "c", "d")], [1, 2, 3, 4])

    def test_numbers_that_have_no_letter(self):
        for thing in (0, 5, -1, -4, 97, 10 ** 29, "a", "ab", [1, [2]]) + NO_NUMBERS:
            refused(self, NoNumber, {"found": thing}, letter_of, thing)

    def test_texts_that_are_no_letter(self):
        for code in range(32, 127):
            if chr(code) not in "abcd":
                self.assertIsNone(part_in(chr(code)))
        for thing in ("", "ab", "aa", "abcd", "bc", "a ", " a", "a\n", "\n"):
            self.assertIsNone(part_in(thing))

    def test_other_kinds_are_no_letter(self):
        for thing in (1, 0, True, False, None, (), ("a",), [], ["a"], {}, {"a": 1}):
            self.assertIsNone(part_in(thing))


if __name__ == "__main__":
    unittest.main()
