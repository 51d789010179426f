"""Bounds, names, the value of an op, numbers in figures, doublings."""

import string
import unittest

from stepcourt import words
from stepcourt.words import doublings, is_name, number_in, value

LAST = 4294967295


class Bounds(unittest.TestCase):
    def test_numbers(self):
        self.assertEqual(words.WIDE, 2 ** 32)
        self.assertEqual(words.GREAT, 10 ** 12)
        self.assertEqual(words.ROOM, 8)
        self.assertEqual(words.WAITS, 6)
        self.assertEqual(words.DEEDS, 8)
        for number in (words.WIDE, words.GREAT, words.ROOM, words.WAITS, words.DEEDS):
            self.assertIs(type(number), int)


class Names(unittest.TestCase):
    def test_one_letter(self):
        for letter in string.ascii_lowercase:
            self.assertIs(is_name(letter), True)

    def test_up_to_six_letters(self):
        for text in ("ab", "abc", "abcd", "abcde", "abcdef", "zzzzzz", "azazaz"):
            self.assertIs(is_name(text), True)

    def test_none_and_seven_letters(self):
        for text in ("", "abcdefg", "aaaaaaaaaaaaaaaaaaaaaaaa"):
            self.assertIs(is_name(text), False)

    def test_the_twelve_words(self):
        taken = "cell row def main set put while if else call end at".split(" ")
        self.assertEqual(len(taken), 12)
        for text in taken:
            self.assertIs(is_name(text), False)

    def test_words_near_the_twelve(self):
        for text in ("cells", "ro", "rows", "de", "defs", "mai", "sets", "puts", "whil", "whiles", "i", "f", "iff",
                     "els", "calls", "en", "ends", "a", "t", "att", "num", "op", "to", "by"):
            self.assertIs(is_name(text), True)

    def test_other_signs(self):
        for text in ("A", "Ab", "aB", "a1", "1", "a b", " a", "a ", "a\n", "\n", "a_", "_", "-", "a-b", "(a", "a)", "`",
                     "{", "a'", "\u00e4", "\u00df", "\u0430", "\uff41", "\u00aa", "\u0131"):
            self.assertIs(is_name(text), False)

    def test_each_sign_in_each_place(self):
        for number in range(256):
            sign = chr(number)
            due = sign in string.ascii_lowercase
            self.assertIs(is_name(sign), due)
            self.assertIs(is_name("x" + sign), due)
            self.assertIs(is_name(sign + "x"), due)
            self.assertIs(is_name("xxx" + sign + "xx"), due)


class Values(unittest.TestCase):
    def test_ordinary(self):
        self.assertEqual(value("+", 7, 5), 12)
        self.assertEqual(value("-", 7, 5), 2)
        self.assertEqual(value("*", 7, 5), 35)
        self.assertEqual(value("<", 7, 5), 0)
        self.assertEqual(value("<", 5, 7), 1)
        self.assertEqual(value("=", 7, 5), 0)
        self.assertEqual(value("=", 7, 7), 1)

    def test_alike_and_noughts(self):
        self.assertEqual(value("<", 7, 7), 0)
        self.assertEqual(value("<", 0, 0), 0)
        self.assertEqual(value("=", 0, 0), 1)
        self.assertEqual(value("+", 0, 0), 0)
        self.assertEqual(value("-", 0, 0), 0)
        self.assertEqual(value("*", 0, LAST), 0)
        self.assertEqual(value("-", 5, 5), 0)

    def test_past_the_last_word(self):
        self.assertEqual(value("+", LAST, 0), LAST)
        self.assertEqual(value("+", LAST, 1), 0)
        self.assertEqual(value("+", LAST, LAST), LAST - 1)
        self.assertEqual(value("*", LAST, LAST), 1)
        self.assertEqual(value("*", 65536, 65536), 0)
        self.assertEqual(value("*", 65536, 65535), 4294901760)
        self.assertEqual(value("*", LAST, 2), LAST - 1)

    def test_below_nought(self):
        self.assertEqual(value("-", 0, 1), LAST)
        self.assertEqual(value("-", 0, LAST), 1)
        self.assertEqual(value("-", 3, 5), LAST - 1)
        self.assertEqual(value("-", LAST, 0), LAST)

    def test_compared_without_a_sign(self):
        self.assertEqual(value("<", 0, LAST), 1)
        self.assertEqual(value("<", LAST, 0), 0)
        self.assertEqual(value("<", LAST - 1, LAST), 1)
        self.assertEqual(value("=", 0, LAST), 0)
        self.assertEqual(value("=", LAST, LAST), 1)

    def test_a_word_that_is_no_truth(self):
        for sign in "+-*<=":
            for a in (0, 1, 2, LAST):
                for b in (0, 1, 2, LAST):
                    told = value(sign, a, b)
                    self.assertIs(type(told), int)
                    self.assertTrue(0 <= told <= LAST)
                    self.assertEqual(value(sign, a, b), told)

    def test_arguments_by_names(self):
        self.assertEqual(value(b=1, a=3, sign="-"), 2)
        self.assertIs(is_name(text="a"), True)


class Figures(unittest.TestCase):
    def test_numbers(self):
        for number in (0, 1, 9, 10, 100, LAST, LAST + 1, 10 ** 30):
            self.assertEqual(number_in(str(number)), number)

    def test_none(self):
        for text in ("", "00", "01", "-1", "+1", " 1", "1 ", "1_0", "1.0", "a", "0x1", "1a", "\u0663", "\u00b2"):
            self.assertIsNone(number_in(text))

    def test_each_sign(self):
        for number in range(256):
            sign = chr(number)
            due = string.digits.find(sign)
            self.assertEqual(number_in(sign), due if due >= 0 else None)
            self.assertEqual(number_in("1" + sign), 10 + due if due >= 0 else None)

    def test_thousands_of_figures(self):
        self.assertEqual(number_in("1" + "0" * 7000), 10 ** 7000)


class Doublings(unittest.TestCase):
    def test_the_least_that_is_not_less(self):
        for number, many in ((0, 0), (1, 0), (2, 1), (3, 2), (4, 2), (5, 3), (32, 5), (33, 6), (64, 6), (65, 7)):
            self.assertEqual(doublings(number), many)


if __name__ == "__main__":
    unittest.main()
