"""Points 10 to 12, and of points 3 to 5 what concerns Polynomial."""

import fractions
import itertools
import unittest

from tracerline.errors import BadPolynomial, BadReadings
from tracerline.exact import Fraction
from tracerline.polynomials import Polynomial

LONG = 10 ** 239 + 7
HALF = Fraction(1, 2)
SAMPLES = [
    [],
    [0],
    [1],
    [-3],
    [HALF],
    [0, 1],
    [1, -1],
    [-1, 1],
    [1, -2, 1],
    [0, 0, Fraction(-2, 3)],
    [HALF, 0, 0, 5],
    [-1, 0, 0, 0, 0, 1],
    [Fraction(LONG, 3), -LONG, Fraction(1, LONG)],
    [Fraction(k + 1, 7 - 2 * k) for k in range(13)],
]
POINTS = [-2, -1, 0, 1, 3, Fraction(0), HALF, Fraction(-5, 3), Fraction(LONG, LONG + 2)]


def theirs(number):
    """The number as a fraction of the standard library."""
    if isinstance(number, Fraction):
        return fractions.Fraction(number.top, number.bottom)
    return fractions.Fraction(number)


def trimmed(numbers):
    """The numbers as fractions of the standard library, without zeros at the end."""
    kept = [theirs(number) for number in numbers]
    while kept and kept[-1] == 0:
        kept.pop()
    return kept


class PolynomialCase(unittest.TestCase):
    def check_number(self, found, expected):
        self.assertIs(found.__class__, Fraction)
        self.assertEqual(theirs(found), theirs(expected))

    def check(self, found, expected):
        """The found value is a Polynomial with the expected coefficients, told in every way."""
        kept = trimmed(expected)
        self.assertIs(found.__class__, Polynomial)
        self.assertEqual(found.degree, len(kept) - 1)
        self.assertEqual(len(found), len(kept))
        coefficients = found.coefficients()
        self.assertIs(coefficients.__class__, list)
        self.assertEqual(len(coefficients), len(kept))
        for k in range(len(kept) + 3):
            self.check_number(found[k], kept[k] if k < len(kept) else 0)
        for k in range(len(kept)):
            self.check_number(coefficients[k], kept[k])


class Making(PolynomialCase):
    def test_samples_from_lists_and_tuples(self):
        for sample in SAMPLES:
            self.check(Polynomial(sample), sample)
            self.check(Polynomial(tuple(sample)), sample)
            self.check(Polynomial(coefficients=sample), sample)

    def test_zeros_at_the_end(self):
        self.check(Polynomial([1, 2, 0]), [1, 2])
        self.check(Polynomial((1, Fraction(0), 0, Fraction(0, 5))), [1])
        self.check(Polynomial([0, 0, 3, 0, 0]), [0, 0, 3])
        self.assertEqual(Polynomial([0, 0, 3, 0, 0]).degree, 2)

    def test_the_zero_polynomial(self):
        for zero in (Polynomial(), Polynomial([]), Polynomial(()), Polynomial([0]), Polynomial([0, Fraction(0), 0])):
            self.assertEqual(zero.degree, -1)
            self.assertEqual(len(zero), 0)
            self.assertEqual(zero.coefficients(), [])
            self.check_number(zero[0], 0)
            self.check_number(zero[50], 0)
            self.check_number(zero(7), 0)
            self.check_number(zero(HALF), 0)

    def test_entries_beyond_the_degree(self):
        polynomial = Polynomial([5, HALF])
        self.check_number(polynomial[0], 5)
        self.check_number(polynomial[1], HALF)
        for k in (2, 3, 40, 10 ** 12, LONG):
            self.check_number(polynomial[k], 0)

    def test_lists_are_copied(self):
        numbers = [1, 2, 3]
        polynomial = Polynomial(numbers)
        numbers[0] = 9
        numbers.append(4)
        self.check(polynomial, [1, 2, 3])
        returned = polynomial.coefficients()
        returned[0] = Fraction(8)
        returned.append(Fraction(4))
        self.check(polynomial, [1, 2, 3])
        self.assertIsNot(polynomial.coefficients(), polynomial.coefficients())

    def test_arguments_are_not_modified(self):
        numbers = [1, HALF, 0, Fraction(0)]
        Polynomial(numbers)
        self.assertEqual(len(numbers), 4)
        self.assertTrue(numbers[0] is not None and numbers[1] is HALF)
        self.assertIs(numbers[0].__class__, int)
        self.assertIs(numbers[2].__class__, int)

    def test_power(self):
        for k in range(42):
            self.check(Polynomial.power(k), [0] * k + [1])
        self.check(Polynomial.power(k=2), [0, 0, 1])
        self.check(Polynomial([5]).power(1), [0, 1])

    def test_a_polynomial_is_not_iterated_over(self):
        with self.assertRaises(TypeError):
            list(Polynomial([1, 2]))


class Values(PolynomialCase):
    def test_values(self):
        for sample in SAMPLES:
            for point in POINTS:
                expected = sum((theirs(c) * theirs(point) ** k for k, c in enumerate(sample)), fractions.Fraction(0))
                self.check_number(Polynomial(sample)(point), expected)

    def test_by_name(self):
        self.check_number(Polynomial([1, 2, 3])(x=2), 17)

    def test_value_at_zero_is_the_first_coefficient(self):
        self.check_number(Polynomial([HALF, 4])(0), HALF)


class Operators(PolynomialCase):
    def test_sums_differences_and_products(self):
        for one, two in itertools.product(SAMPLES, repeat=2):
            p, q = Polynomial(one), Polynomial(two)
            size = max(len(one), len(two))
            first = [theirs(c) for c in one] + [fractions.Fraction(0)] * (size - len(one))
            second = [theirs(c) for c in two] + [fractions.Fraction(0)] * (size - len(two))
            self.check(p + q, [a + b for a, b in zip(first, second)])
            self.check(p - q, [a - b for a, b in zip(first, second)])
            product = [fractions.Fraction(0)] * (len(one) + len(two))
            for j, a in enumerate(one):
                for k, b in enumerate(two):
                    product[j + k] += theirs(a) * theirs(b)
            self.check(p * q, product)
            self.check(p, one)
            self.check(q, two)

    def test_minus(self):
        for sample in SAMPLES:
            self.check(-Polynomial(sample), [-c for c in sample])

    def test_sums_that_cancel(self):
        self.check(Polynomial([1, 2, 3]) + Polynomial([0, 0, -3]), [1, 2])
        self.check(Polynomial([1, 0, HALF]) - Polynomial([0, 0, Fraction(2, 4)]), [1])
        self.check(Polynomial([1, 2]) - Polynomial([1, 2]), [])
        self.check(Polynomial([1, 2]) + Polynomial([-1, -2]), [])
        self.check(Polynomial([1, 1]) * Polynomial([1, -1]), [1, 0, -1])

    def test_products_with_zero(self):
        self.check(Polynomial() * Polynomial([1, 2]), [])
        self.check(Polynomial([1, 2]) * Polynomial(), [])
        self.check(Polynomial() * Polynomial(), [])

    def test_equal(self):
        for j, one in enumerate(SAMPLES):
            for k, two in enumerate(SAMPLES):
                same = trimmed(one) == trimmed(two)
                self.assertIs(Polynomial(one) == Polynomial(two), same, (j, k))
                self.assertIs(Polynomial(one) != Polynomial(two), not same, (j, k))

    def test_equal_however_the_coefficients_are_written(self):
        self.assertTrue(Polynomial([1, 2, 0]) == Polynomial((Fraction(3, 3), Fraction(-4, -2))))
        self.assertFalse(Polynomial([1, 2, 0]) != Polynomial((Fraction(3, 3), Fraction(-4, -2))))
        self.assertTrue(Polynomial([1, 2]) != Polynomial([1, 2, 3]))
        self.assertTrue(Polynomial([1, 2]) != Polynomial([2, 1]))
        self.assertFalse(Polynomial([1, 2]) == Polynomial([1]))
        self.assertFalse(Polynomial([1, 2, 4]) == Polynomial([1, 3, 4]))

    def test_equal_whatever_they_were_made_by(self):
        for sample in SAMPLES:
            one = Polynomial(sample)
            for number in (-6, HALF, Fraction(-5, 12), LONG):
                self.check(one.scaled(number).scaled(Fraction(1).over(number)), sample)
                self.assertTrue(one.scaled(number).scaled(Fraction(1).over(number)) == one)
                for factor in (Polynomial([number, HALF]), Polynomial([HALF, number])):
                    quotient = (one * factor).divided(factor)[0]
                    self.assertTrue(quotient == one)
                    self.assertIs(quotient.has_negative(), one.has_negative())
                    self.assertTrue(one + factor - factor == one)
                    self.assertFalse(one + factor == one)
            self.assertTrue(one - one == Polynomial())
            self.assertTrue(--one == one)

    def test_other_kinds_are_not_equal(self):
        for thing in (1, "1", None, [1], Fraction(1)):
            self.assertFalse(Polynomial([1]) == thing)
            self.assertTrue(Polynomial([1]) != thing)

    def test_other_kinds_are_refused(self):
        for thing in ("1", None, [1]):
            for action in (Polynomial.__add__, Polynomial.__sub__, Polynomial.__mul__):
                self.assertIs(action(Polynomial([1]), thing), NotImplemented)


class Methods(PolynomialCase):
    def test_negative_coefficients(self):
        for sample in SAMPLES:
            self.assertIs(Polynomial(sample).has_negative(), any(c < 0 for c in sample))
            self.assertIs((-Polynomial(sample)).has_negative(), any(c > 0 for c in sample))

    def test_scaled(self):
        for sample in SAMPLES:
            for number in POINTS:
                self.check(Polynomial(sample).scaled(number), [c * number for c in sample])
        self.check(Polynomial([2, HALF]).scaled(number=4), [8, 2])
        self.check(Polynomial([2, HALF]).scaled(0), [])

    def test_raised(self):
        for sample in SAMPLES:
            for k in range(5):
                self.check(Polynomial(sample).raised(k), [0] * k + sample)
        self.check(Polynomial([2, 1]).raised(k=1), [0, 2, 1])
        self.check(Polynomial().raised(3), [])

    def test_methods_leave_the_polynomial(self):
        polynomial = Polynomial([1, HALF, 3])
        polynomial.scaled(7)
        polynomial.raised(2)
        polynomial.divided(Polynomial([1, 1]))
        polynomial.sum_over([1, 2, 3])
        polynomial(5)
        self.check(polynomial, [1, HALF, 3])


class Division(PolynomialCase):
    def check_division(self, dividend, divisor):
        found = dividend.divided(divisor)
        self.assertIs(found.__class__, tuple)
        quotient, rest = found
        self.assertLess(rest.degree, divisor.degree)
        self.check(quotient * divisor + rest, dividend.coefficients())
        return quotient, rest

    def test_all_samples(self):
        for one, two in itertools.product(SAMPLES, repeat=2):
            dividend, divisor = Polynomial(one), Polynomial(two)
            if trimmed(two):
                self.check_division(dividend, divisor)
                quotient, rest = self.check_division(dividend * divisor, divisor)
                self.check(quotient, one)
                self.check(rest, [])
            self.check(dividend, one)
            self.check(divisor, two)

    def test_without_a_rest(self):
        quotient, rest = Polynomial([-1, 0, 1]).divided(Polynomial([1, 1]))
        self.check(quotient, [-1, 1])
        self.check(rest, [])

    def test_with_a_rest(self):
        quotient, rest = Polynomial([1, 2, 3]).divided(divisor=Polynomial([0, 2]))
        self.check(quotient, [1, Fraction(3, 2)])
        self.check(rest, [1])

    def test_a_divisor_of_a_greater_degree(self):
        quotient, rest = Polynomial([1, 2]).divided(Polynomial([0, 0, 5]))
        self.check(quotient, [])
        self.check(rest, [1, 2])

    def test_a_divisor_that_is_a_number(self):
        quotient, rest = Polynomial([1, 2]).divided(Polynomial([4]))
        self.check(quotient, [Fraction(1, 4), HALF])
        self.check(rest, [])

    def test_zero_divided(self):
        quotient, rest = Polynomial().divided(Polynomial([3, 1]))
        self.check(quotient, [])
        self.check(rest, [])

    def test_great_powers(self):
        divisor = Polynomial([Fraction(1, 3), -2, 0, 1])
        for k in (40, 60):
            self.check_division(Polynomial.power(k), divisor)

    def test_the_zero_divisor(self):
        for dividend in (Polynomial(), Polynomial([1]), Polynomial([1, 2, 3])):
            for zero in (Polynomial(), Polynomial([0, 0])):
                with self.assertRaises(BadPolynomial):
                    dividend.divided(zero)


class SumOver(PolynomialCase):
    def test_sums(self):
        readings = [Fraction(k - 4, k + 3) for k in range(13)] + [2, -7]
        for sample in SAMPLES:
            expected = sum((theirs(c) * theirs(r) for c, r in zip(sample, readings)), fractions.Fraction(0))
            self.check_number(Polynomial(sample).sum_over(readings), expected)

    def test_lists_that_are_just_long_enough_or_longer(self):
        polynomial = Polynomial([1, 0, HALF])
        self.check_number(polynomial.sum_over([3, 5, 8]), 7)
        self.check_number(polynomial.sum_over([3, 5, 8, 100, HALF]), 7)
        self.check_number(polynomial.sum_over(readings=[0, HALF, Fraction(1, 3)]), Fraction(1, 6))

    def test_zeros_at_the_end_need_no_readings(self):
        self.check_number(Polynomial([1, 2, 0, 0]).sum_over([1, 1]), 3)

    def test_the_zero_polynomial(self):
        self.check_number(Polynomial().sum_over([]), 0)
        self.check_number(Polynomial([0]).sum_over([1, 2]), 0)

    def test_lists_that_are_too_short(self):
        for polynomial in (Polynomial([1]), Polynomial([0, 0, 1]), Polynomial.power(12)):
            for length in range(len(polynomial)):
                with self.assertRaises(BadReadings):
                    polynomial.sum_over([1] * length)
            self.check_number(polynomial.sum_over([1] * len(polynomial)), 1)

    def test_the_list_is_not_modified(self):
        readings = [1, HALF, 3]
        Polynomial([1, 1]).sum_over(readings)
        self.assertEqual(readings, [1, HALF, 3])
        self.assertIs(readings[0].__class__, int)


class Limits(PolynomialCase):
    def test_degree_and_digits_beyond_the_limits(self):
        numbers = [Fraction(LONG * 1000 + k, LONG * 900 + 7 * k) for k in range(16)]
        polynomial = Polynomial(numbers)
        self.assertEqual(polynomial.degree, 15)
        square = polynomial * polynomial
        self.assertEqual(square.degree, 30)
        quotient, rest = square.divided(polynomial)
        self.assertTrue(quotient == polynomial)
        self.check(rest, [])
        self.check_number((square * square)(1), theirs(square(1)) ** 2)


class Examples(unittest.TestCase):
    def test_examples_of_the_document(self):
        p = Polynomial([1, -2, 0]) * Polynomial([1, -2])
        self.assertEqual([p.degree, p[2].top, p(3).top, p.sum_over([1, 0, 5, 7]).top], [2, 4, 25, 21])
        quotient, rest = Polynomial.power(3).divided(Polynomial([0, -1, 1]))
        texts = [str(c) for c in quotient.coefficients()] + [str(c) for c in rest.coefficients()]
        self.assertEqual(texts, ["1", "1", "0", "1"])


if __name__ == "__main__":
    unittest.main()
