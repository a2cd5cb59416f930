"""Points 6 to 8, and of points 3 to 5 what concerns Fraction."""

import fractions
import operator
import unittest
from math import gcd

from tracerline.errors import BadFraction
from tracerline.exact import Fraction

LONG = 10 ** 239 + 7
LONGER = 3 ** 700
ARITHMETIC = [operator.add, operator.sub, operator.mul]
COMPARISONS = [operator.eq, operator.ne, operator.lt, operator.le, operator.gt, operator.ge]
INTEGERS = [-(10 ** 30), -7, -2, -1, 0, 1, 2, 3, 12, LONG]
PAIRS = [
    (0, 1), (0, -5), (1, 1), (-1, 1), (2, 1), (1, 2), (-1, 2), (1, -2), (-1, -2), (2, 4), (3, 4), (4, 3), (-4, 3),
    (10, -4), (7, 7), (1, LONG), (LONG, LONGER), (-LONGER, LONG), (LONG, LONG + 1), (LONG + 1, LONG),
    (6 * LONG, -4 * LONG),
]


def both(pair):
    """The same fraction of the program and of the standard library."""
    return Fraction(*pair), fractions.Fraction(*pair)


class FractionCase(unittest.TestCase):
    def check(self, found, expected):
        """The found value is a Fraction in lowest terms, and the expected one."""
        self.assertIs(found.__class__, Fraction)
        self.assertIs(found.top.__class__, int)
        self.assertIs(found.bottom.__class__, int)
        expected = fractions.Fraction(expected)
        self.assertEqual((found.top, found.bottom), (expected.numerator, expected.denominator))


class Making(FractionCase):
    def test_lowest_terms_and_sign(self):
        cases = [
            ((2, 4), (1, 2)), ((-2, 4), (-1, 2)), ((2, -4), (-1, 2)), ((-2, -4), (1, 2)), ((0, 7), (0, 1)),
            ((0, -7), (0, 1)), ((6, 3), (2, 1)), ((-6, 3), (-2, 1)), ((6, -3), (-2, 1)), ((5, 7), (5, 7)),
            ((1, -1), (-1, 1)), ((12 * LONG, 18 * LONG), (2, 3)),
        ]
        for pair, expected in cases:
            found = Fraction(*pair)
            self.assertEqual((found.top, found.bottom), expected)

    def test_against_the_standard_library(self):
        for top in range(-12, 13):
            for bottom in list(range(-12, 0)) + list(range(1, 13)):
                self.check(Fraction(top, bottom), fractions.Fraction(top, bottom))
        for pair in PAIRS:
            self.check(*both(pair))

    def test_no_common_divisor_in_long_numbers(self):
        found = Fraction(LONG * LONGER, LONGER * 30)
        self.assertEqual(gcd(found.top, found.bottom), 1)
        self.assertEqual(found.top * 30, LONG * found.bottom)

    def test_default_and_names(self):
        self.check(Fraction(5), 5)
        self.check(Fraction(top=5), 5)
        self.check(Fraction(top=5, bottom=-10), fractions.Fraction(-1, 2))
        self.check(Fraction(bottom=4, top=6), fractions.Fraction(3, 2))

    def test_attributes_are_set_on_the_object(self):
        self.assertLessEqual({"top", "bottom"}, set(vars(Fraction(1, 2))))

    def test_bottom_zero(self):
        for top in (0, 1, -1, LONG):
            with self.assertRaises(BadFraction):
                Fraction(top, 0)
            with self.assertRaises(BadFraction):
                Fraction(top=top, bottom=0)


class Arithmetic(FractionCase):
    def test_two_fractions(self):
        for one in PAIRS:
            for two in PAIRS:
                for action in ARITHMETIC:
                    found = action(Fraction(*one), Fraction(*two))
                    self.check(found, action(fractions.Fraction(*one), fractions.Fraction(*two)))

    def test_an_integer_on_either_side(self):
        for pair in PAIRS:
            mine, theirs = both(pair)
            for number in INTEGERS:
                for action in ARITHMETIC:
                    self.check(action(mine, number), action(theirs, number))
                    self.check(action(number, mine), action(number, theirs))

    def test_minus_abs_and_truth(self):
        for pair in PAIRS:
            mine, theirs = both(pair)
            self.check(-mine, -theirs)
            self.check(abs(mine), abs(theirs))
            self.assertIs(bool(mine), theirs != 0)

    def test_zero_is_false_however_it_is_made(self):
        for zero in (Fraction(0), Fraction(0, -3), Fraction(1, 2) - Fraction(2, 4), 0 * Fraction(5), -Fraction(0)):
            self.assertIs(bool(zero), False)
            self.assertEqual((zero.top, zero.bottom), (0, 1))
        self.assertIs(bool(Fraction(1, 10 ** 300)), True)
        self.assertIs(bool(Fraction(-1)), True)

    def test_assignments_leave_the_old_object(self):
        for number in (Fraction(1, 3), 2):
            plus = minus = times = old = Fraction(3, 4)
            plus += number
            minus -= number
            times *= number
            self.check(old, fractions.Fraction(3, 4))
            for new, action in ((plus, operator.add), (minus, operator.sub), (times, operator.mul)):
                self.assertIsNot(new, old)
                self.assertEqual(new, action(old, number))
                self.assertIs(new.__class__, Fraction)

    def test_assignments_to_an_integer(self):
        plus = minus = times = 2
        plus += Fraction(1, 3)
        minus -= Fraction(1, 3)
        times *= Fraction(1, 3)
        self.check(plus, fractions.Fraction(7, 3))
        self.check(minus, fractions.Fraction(5, 3))
        self.check(times, fractions.Fraction(2, 3))

    def test_operators_leave_both_sides(self):
        one, two = Fraction(3, 4), Fraction(-5, 6)
        for action in ARITHMETIC + COMPARISONS:
            action(one, two)
            action(one, 3)
            action(3, one)
        for made in (-one, abs(two), one.over(two), str(one), bool(one)):
            self.assertIsNotNone(made)
        self.check(one, fractions.Fraction(3, 4))
        self.check(two, fractions.Fraction(-5, 6))

    def test_sum_of_a_list(self):
        self.check(sum([Fraction(1, 2), Fraction(1, 3), 1]), fractions.Fraction(11, 6))

    def test_other_kinds_are_refused(self):
        for action in ARITHMETIC + COMPARISONS[2:]:
            for thing in ("1", None, [1]):
                with self.assertRaises(TypeError):
                    action(Fraction(1), thing)
                with self.assertRaises(TypeError):
                    action(thing, Fraction(1))


class Over(FractionCase):
    def test_quotients(self):
        for one in PAIRS:
            for two in PAIRS:
                if two[0] != 0:
                    expected = fractions.Fraction(*one) / fractions.Fraction(*two)
                    self.check(Fraction(*one).over(Fraction(*two)), expected)
            for number in INTEGERS:
                if number != 0:
                    self.check(Fraction(*one).over(number), fractions.Fraction(*one) / number)

    def test_by_name(self):
        self.check(Fraction(1, 2).over(other=3), fractions.Fraction(1, 6))

    def test_zero_divisor(self):
        for fraction in (Fraction(0), Fraction(3, 4), Fraction(-LONG)):
            for zero in (0, Fraction(0), Fraction(0, -9)):
                with self.assertRaises(BadFraction):
                    fraction.over(zero)


class Comparing(FractionCase):
    def test_two_fractions(self):
        for one in PAIRS:
            for two in PAIRS:
                for action in COMPARISONS:
                    expected = action(fractions.Fraction(*one), fractions.Fraction(*two))
                    self.assertIs(action(Fraction(*one), Fraction(*two)), expected, (one, two, action))

    def test_an_integer_on_either_side(self):
        for pair in PAIRS:
            mine, theirs = both(pair)
            for number in INTEGERS:
                for action in COMPARISONS:
                    self.assertIs(action(mine, number), action(theirs, number), (pair, number, action))
                    self.assertIs(action(number, mine), action(number, theirs), (pair, number, action))

    def test_equal_values_of_different_terms(self):
        self.assertTrue(Fraction(2, 4) == Fraction(-1, -2))
        self.assertFalse(Fraction(2, 4) != Fraction(-1, -2))
        self.assertTrue(Fraction(6, 3) == 2)
        self.assertTrue(2 == Fraction(6, 3))
        self.assertFalse(2 != Fraction(6, 3))

    def test_long_numbers_that_differ_little(self):
        one, two = Fraction(LONG, LONG + 1), Fraction(LONG + 1, LONG + 2)
        self.assertTrue(one < two < 1)
        self.assertTrue(one <= two <= 1)
        self.assertTrue(1 > two > one)
        self.assertTrue(1 >= two >= one)
        self.assertTrue(one != two)
        self.assertFalse(one == two)

    def test_other_kinds_are_not_equal(self):
        for thing in ("1", None, [1], (1, 1)):
            self.assertFalse(Fraction(1) == thing)
            self.assertTrue(Fraction(1) != thing)
            self.assertFalse(thing == Fraction(1))
            self.assertTrue(thing != Fraction(1))


class Texts(FractionCase):
    def test_texts(self):
        cases = [
            ((0, 1), "0"), ((0, -9), "0"), ((7, 1), "7"), ((-7, 1), "-7"), ((7, -1), "-7"), ((7, 2), "7/2"),
            ((-7, 2), "-7/2"), ((7, -2), "-7/2"), ((-7, -2), "7/2"), ((2, 4), "1/2"), ((4, 2), "2"),
        ]
        for pair, text in cases:
            self.assertEqual(str(Fraction(*pair)), text)
            self.assertEqual(f"{Fraction(*pair)}", text)

    def test_long_texts(self):
        for pair in PAIRS:
            theirs = fractions.Fraction(*pair)
            self.assertEqual(str(Fraction(*pair)), str(theirs))

    def test_numerals_of_4000_digits(self):
        top, bottom = 10 ** 3999, 10 ** 3999 + 1
        self.assertEqual(str(Fraction(-top, bottom)), "-1" + "0" * 3999 + "/1" + "0" * 3998 + "1")
        self.assertEqual(str(Fraction(top)), "1" + "0" * 3999)

    def test_values_too_long_for_a_text_can_still_be_used(self):
        huge = Fraction(7, 3)
        for _ in range(13):
            huge = huge * huge
        self.assertGreater(huge.top, 10 ** 6000)
        self.check(huge, fractions.Fraction(7, 3) ** 2 ** 13)
        self.assertTrue(huge.over(huge) == 1)


class Examples(unittest.TestCase):
    def test_examples_of_the_document(self):
        self.assertEqual(str(1 - Fraction(3, -6) * 5), "7/2")
        found = (Fraction(2, 4) < 1, Fraction(7, 2).over(Fraction(-1, 2)) == -7)
        self.assertEqual(found, (True, True))


if __name__ == "__main__":
    unittest.main()
