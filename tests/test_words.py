"""Names, numbers' writings, atoms' writings [11]."""

import string
import unittest

from exitweave.words import atom_of, is_atom, is_name, is_number

NO_NAMES = [
    "fun", "way", "say", "leave", "if", "else", "stretch", "clean",
    "call", "on", "out", "again", "end", "fault",
]

NAMES = [
    "a", "z", "m", "ab", "main", "abcdefgh", "zzzzzzzz", "stretchy", "fund", "o", "i", "nd", "faults",
    "and", "or", "not", "jump", "none", "nought",
]

NUMBERS = [
    "0", "1", "9", "10", "100", "42", "-1", "-9", "-10", "123456789012", "-123456789012",
    "999999999999", "-999999999999", "100000000000",
]

NO_NUMBERS = [
    "-0", "00", "-00", "-", "", "--1", "1-", "1-2", "-1-", "+", "+1", "+0", "-+1", "01", "-01", "007", "000000000000",
    "0123456789012", "1234567890123", "-1234567890123", "1000000000000", "1.0", "1.", ".1", "1e3", "0x1", "1_000",
    "1 2", " 1", "1 ", "1\n", "\n1", "- 1", "\u00b2", "\u0661", "1\u0661", "\uff11", "-\u0661", "1" * 40000,
]

NO_TEXTS = [
    0, 1, -1, 12, 10 ** 12, True, False, None, [], ["a"], ["0"], (), ("a",), ("0",), {}, {"a": 1},
    1.5, b"a", b"0", object(), str, len,
]


class NamesTest(unittest.TestCase):
    def assert_name(self, thing, awaited):
        with self.subTest(thing):
            self.assertIs(is_name(thing), awaited)

    def test_names(self):
        for thing in NAMES:
            self.assert_name(thing, True)

    def test_every_small_letter_by_itself_and_at_each_end(self):
        for letter in string.ascii_lowercase:
            self.assert_name(letter, True)
            self.assert_name("q" + letter + "q", True)
            self.assert_name("qqqqqqq" + letter, True)

    def test_the_bounds_of_the_length(self):
        for count in range(0, 20):
            self.assert_name("x" * count, 1 <= count <= 8)
        self.assert_name("x" * 40000, False)

    def test_the_fourteen_words_are_no_names(self):
        self.assertEqual(len(set(NO_NAMES)), 14)
        for word in NO_NAMES:
            self.assert_name(word, False)

    def test_the_fourteen_words_with_a_letter_more_or_less(self):
        for word in NO_NAMES:
            around = [word + "a", word + "z", "a" + word, "z" + word, word[0] + word]
            around = around + [word[:-1], word[1:], word[:1] + word[2:]]
            for thing in around:
                self.assert_name(thing, 1 <= len(thing) <= 8)

    def test_no_two_of_them_side_by_side_hide_a_name(self):
        self.assert_name("funfun", True)
        self.assert_name("onout", True)
        self.assert_name("on out", False)

    def test_no_other_sign_stands_in_a_name(self):
        signs = string.ascii_uppercase + string.digits + string.punctuation + " \n\t\r\0"
        for sign in signs + "\u00e4\u00df\u03b1\u0430\u017f\u00aa\uff41":
            for thing in (sign, "a" + sign, sign + "a", "a" + sign + "a"):
                self.assert_name(thing, False)

    def test_capital_forms_of_the_words_are_no_names_either(self):
        for word in NO_NAMES:
            self.assert_name(word.upper(), False)
            self.assert_name(word.title(), False)

    def test_what_is_no_text_is_no_name(self):
        for thing in NO_TEXTS:
            self.assert_name(thing, False)


class NumbersTest(unittest.TestCase):
    def assert_number(self, thing, awaited):
        with self.subTest(str(thing)[:50]):
            self.assertIs(is_number(thing), awaited)

    def test_numbers(self):
        for thing in NUMBERS:
            self.assert_number(thing, True)

    def test_what_is_written_otherwise(self):
        for thing in NO_NUMBERS + NAMES + NO_NAMES:
            self.assert_number(thing, False)

    def test_the_bounds_of_the_length(self):
        for figure in "123456789":
            for count in range(0, 16):
                self.assert_number(figure * count, 1 <= count <= 12)
                self.assert_number("-" + figure * count, 1 <= count <= 12)

    def test_all_small_numbers_as_they_are_written(self):
        for number in range(-1100, 1101):
            self.assert_number(str(number), True)
            self.assert_number("0" + str(abs(number)), False)
            self.assert_number("-0" + str(abs(number)), False)

    def test_no_other_sign_stands_in_a_number(self):
        for sign in string.ascii_letters + string.punctuation + " \n\t\r\0":
            for thing in (sign, "1" + sign, "1" + sign + "1", "-" + sign, "-1" + sign):
                self.assert_number(thing, False)
            self.assert_number(sign + "1", sign == "-")

    def test_what_is_no_text_is_no_number(self):
        for thing in NO_TEXTS:
            self.assert_number(thing, False)


class AtomsTest(unittest.TestCase):
    def test_an_atom_is_written_as_a_number_or_a_name(self):
        for thing in NUMBERS + NAMES:
            with self.subTest(thing):
                self.assertIs(is_atom(thing), True)

    def test_all_else_is_no_atom(self):
        for thing in NO_NUMBERS + NO_NAMES + NO_TEXTS + ["A", "a1", "1a", "a b", "-a", "a-", "abcdefghi"]:
            with self.subTest(str(thing)[:50]):
                self.assertIs(is_atom(thing), False)

    def test_a_number_is_told_as_a_whole_number(self):
        for word in NUMBERS:
            with self.subTest(word):
                self.assertIs(type(atom_of(word)), int)
                self.assertEqual(str(atom_of(word)), word)
        self.assertEqual(atom_of("0"), 0)
        self.assertEqual(atom_of("-7"), -7)
        self.assertEqual(atom_of("-999999999999"), -999999999999)

    def test_a_name_is_told_as_itself(self):
        for word in NAMES:
            with self.subTest(word):
                self.assertIs(type(atom_of(word)), str)
                self.assertEqual(atom_of(word), word)


if __name__ == "__main__":
    unittest.main()
