"""Point 9: the texts of fractions."""

import fractions
import itertools
import re
import unittest

from tracerline.errors import BadText
from tracerline.exact import Fraction, read_fraction

VALID = re.compile("0(/[1-9][0-9]{0,59})?|-?[1-9][0-9]{0,59}(/[1-9][0-9]{0,59})?")


def is_valid(text):
    return VALID.fullmatch(text) is not None


def is_beginning(text):
    """Whether some valid text begins so: it is valid, or one more digit makes it valid."""
    return is_valid(text) or is_valid(text + "1")


def expected_column(text):
    """The column of the error, by trying every beginning; None if the text is valid."""
    for length in range(1, len(text) + 1):
        if not is_beginning(text[:length]):
            return length
    return None if is_valid(text) else len(text) + 1


class ReadCase(unittest.TestCase):
    def check_read(self, text):
        found = read_fraction(text)
        expected = fractions.Fraction(text)
        self.assertIs(found.__class__, Fraction)
        self.assertEqual((found.top, found.bottom), (expected.numerator, expected.denominator), text)

    def check_refused(self, text, column):
        with self.assertRaises(BadText) as caught:
            read_fraction(text)
        self.assertEqual((caught.exception.line, caught.exception.column), (1, column), repr(text))


class ValidTexts(ReadCase):
    def test_each_form(self):
        for text in ("0", "7", "10", "907", "-7", "-10", "1/2", "-1/2", "0/1", "0/5", "4/2", "-10/4", "12/120", "3/1"):
            self.check_read(text)

    def test_terms_that_are_not_lowest(self):
        self.assertEqual(str(read_fraction("-10/4")), "-5/2")
        self.assertEqual(str(read_fraction("6/3")), "2")
        self.assertEqual(str(read_fraction("0/9")), "0")

    def test_by_name(self):
        self.assertEqual(str(read_fraction(text="3/6")), "1/2")

    def test_texts_of_fractions_are_read_back(self):
        for top in range(-15, 16):
            for bottom in range(1, 16):
                fraction = Fraction(top, bottom)
                self.assertTrue(read_fraction(str(fraction)) == fraction)

    def test_numerals_of_60_digits(self):
        nines, ones = "9" * 60, "1" * 60
        for text in (nines, "-" + nines, nines + "/" + ones, "-" + ones + "/" + nines, "0/" + nines, "1/" + ones):
            self.check_read(text)

    def test_numerals_with_zeros_behind_the_first_digit(self):
        self.check_read("1" + "0" * 59)
        self.check_read("-1" + "0" * 59 + "/1" + "0" * 59)


class WrongTexts(ReadCase):
    def test_columns(self):
        cases = [
            ("", 1), ("-", 2), ("1/", 3), ("-12/", 5), ("0/", 3),
            ("00", 2), ("01", 2), ("-0", 2), ("-01", 2), ("-0/1", 2), ("-00", 2),
            ("1/0", 3), ("0/0", 3), ("12/05", 4), ("12/00", 4), ("-1/0", 4),
            ("+1", 1), ("1/+2", 3), ("1/-2", 3), ("--1", 2), ("1-", 2), ("-/2", 2), ("/2", 1), ("/", 1),
            (" 1", 1), ("1 ", 2), ("1 /2", 2), ("1/ 2", 3), ("1/2 ", 4), ("- 1", 2), (" ", 1), ("1 2", 2),
            ("1//2", 3), ("1/2/3", 4), ("1/2/", 4), ("//", 1), ("0//", 3),
            ("a", 1), ("1a", 2), ("1/a", 3), ("1/2a", 4), ("1.5", 2), ("1e3", 2), ("1_0", 2), ("0x1", 2), ("~", 1),
            ("1\n", 2), ("1/2\n", 4), ("\n", 1),
        ]
        for text, column in cases:
            self.check_refused(text, column)

    def test_numerals_of_61_digits(self):
        for digit in "19":
            long = digit * 61
            self.check_refused(long, 61)
            self.check_refused("-" + long, 62)
            self.check_refused(long + "/2", 61)
            self.check_refused("1/" + long, 63)
            self.check_refused("-1/" + long, 64)
            self.check_refused("0/" + long, 63)
            self.check_refused(digit * 60 + "/" + long, 122)
        self.check_refused("5" * 62, 61)
        self.check_refused("5" * 500, 61)

    def test_60_digits_and_a_wrong_character(self):
        self.check_refused("5" * 60 + "a", 61)
        self.check_refused("5" * 60 + "/", 62)
        self.check_refused("5" * 60 + "/0", 62)
        self.check_refused("5" * 60 + "/" + "5" * 60 + "/", 122)

    def test_every_short_text(self):
        for length in range(6):
            for characters in itertools.product("-/019 +a", repeat=length):
                text = "".join(characters)
                column = expected_column(text)
                if column is None:
                    self.check_read(text)
                else:
                    self.check_refused(text, column)

    def test_every_wrong_character(self):
        for code in range(32, 127):
            for start in ("", "-", "0", "12", "12/", "12/3"):
                text = start + chr(code)
                column = expected_column(text)
                if column is None:
                    self.check_read(text)
                else:
                    self.check_refused(text, column)


class Examples(ReadCase):
    def test_examples_of_the_document(self):
        self.assertEqual(read_fraction("-10/4").top, -5)
        self.check_refused("12/05", 4)


if __name__ == "__main__":
    unittest.main()
