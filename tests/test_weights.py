"""Points 20 to 22, and of points 3 to 5 what concerns Weights."""

import unittest

from tests.plain import LINES, WEBS, LONG, PlainCase, all_theirs, fraction_list, product, theirs, total, walk, web_of
from tracerline.errors import BadForm, BadLine, BadPolynomial, BadReadings, BadShare
from tracerline.exact import Fraction
from tracerline.polynomials import Polynomial
from tracerline.weights import Weights, end_weights

HALF = Fraction(1, 2)
FORMS = {"1": [1], "x": [0, 1], "1-x": [1, -1], "x(1-x)": [0, 1, -1]}
ROOTS = [
    [1],
    [-3],
    [HALF],
    [-1, 2],
    [0, 1],
    [1, -1],
    [Fraction(1, 3), Fraction(-5, 7), 1],
    [0, 0, 0, 2],
    [1, -4, 6, -4, 1],
    [Fraction(LONG, 3), 0, 0, -LONG, Fraction(1, LONG)],
]
POINTS = [0, 1, HALF, Fraction(1, 3), Fraction(99, 100), -1, 2, Fraction(-7, 3), Fraction(5, 2), Fraction(LONG, LONG + 1)]
ALMOST = ["", "2", "0", "X", " x", "x ", "1 - x", "x-1", "(1-x)", "x(1-X)", "(1-x)x", "x(1 - x)", "x*(1-x)", "x(1-x", "11"]


def samples():
    return [(form, root) for form in FORMS for root in ROOTS]


def square(form, root):
    """The coefficients of the form times the root times the root."""
    return product(FORMS[form], product(root, root))


def at(coefficients, x):
    return sum(theirs(number) * theirs(x) ** k for k, number in enumerate(coefficients))


class WeightsCase(PlainCase):
    def check_polynomial(self, found, coefficients):
        self.assertIs(found.__class__, Polynomial)
        self.assertEqual(all_theirs(found.coefficients()), all_theirs(coefficients))

    def check_weights(self, found, form, root):
        """The found value is Weights of this form and root."""
        self.assertIs(found.__class__, Weights)
        self.assertEqual(found.form, form)
        self.check_polynomial(found.root, root)


class Making(WeightsCase):
    def test_the_forms(self):
        self.assertEqual(Weights.FORMS, ("1", "x", "1-x", "x(1-x)"))
        self.assertIs(Weights.FORMS.__class__, tuple)

    def test_attributes_polynomials_and_degree(self):
        for form, root in samples():
            weights = Weights(form, Polynomial(root))
            self.check_weights(weights, form, root)
            self.assertLessEqual({"form", "root"}, set(vars(weights)))
            self.check_polynomial(weights.polynomial(), square(form, root))
            self.check_polynomial(weights.half(), product(FORMS[form], root))
            self.assertEqual(weights.degree, len(square(form, root)) - 1)
        self.check_weights(Weights(root=Polynomial([2, 1]), form="1-x"), "1-x", [2, 1])

    def test_values(self):
        for form, root in samples():
            weights = Weights(form, Polynomial(root))
            for x in POINTS:
                self.check_number(weights(x), at(square(form, root), x))
                if 0 <= theirs(x) <= 1:
                    self.assertGreaterEqual(weights(x), 0)
        self.check_number(Weights("x", Polynomial([1, 1]))(x=2), 18)

    def test_strings_that_are_no_form(self):
        for form in ALMOST:
            self.check_error(BadForm, {"form": form}, Weights, form, Polynomial([1]))
            self.check_error(BadForm, {"form": form}, Weights, form, Polynomial())

    def test_the_zero_root(self):
        for form in FORMS:
            self.check_error(BadPolynomial, {}, Weights, form, Polynomial())
            self.check_error(BadPolynomial, {}, Weights, form, Polynomial([0, 0]))


class Products(WeightsCase):
    def test_times_x(self):
        forms = {"1": ("x", [1]), "x": ("1", [0, 1]), "1-x": ("x(1-x)", [1]), "x(1-x)": ("1-x", [0, 1])}
        for form, root in samples():
            expected, factor = forms[form]
            found = Weights(form, Polynomial(root)).times_x()
            self.check_weights(found, expected, product(root, factor))
            self.check_polynomial(found.polynomial(), product(square(form, root), [0, 1]))

    def test_times_rest(self):
        forms = {"1": ("1-x", [1]), "1-x": ("1", [1, -1]), "x": ("x(1-x)", [1]), "x(1-x)": ("x", [1, -1])}
        for form, root in samples():
            expected, factor = forms[form]
            found = Weights(form, Polynomial(root)).times_rest()
            self.check_weights(found, expected, product(root, factor))
            self.check_polynomial(found.polynomial(), product(square(form, root), [1, -1]))

    def test_both_in_both_orders(self):
        forms = {"1": "x(1-x)", "x": "1-x", "1-x": "x", "x(1-x)": "1"}
        for form, root in samples():
            weights = Weights(form, Polynomial(root))
            one, other = weights.times_x().times_rest(), weights.times_rest().times_x()
            self.assertEqual((one.form, other.form), (forms[form], forms[form]))
            for found in (one, other):
                self.check_polynomial(found.polynomial(), product(square(form, root), [0, 1, -1]))

    def test_the_weights_stay_as_they_are(self):
        for form, root in samples():
            weights = Weights(form, Polynomial(root))
            weights.times_x()
            weights.times_rest()
            self.check_weights(weights, form, root)


class Sums(WeightsCase):
    def test_sum_over(self):
        readings = [5, HALF, Fraction(-1, 3), 0, 2, Fraction(1, LONG), 7, -1, 3, 1, 1, LONG]
        for form, root in samples():
            weights = Weights(form, Polynomial(root))
            coefficients = square(form, root)
            for many in (len(coefficients), len(coefficients) + 1, len(readings)):
                self.check_number(weights.sum_over(readings[:many]), total(coefficients, readings[:many]))
            for many in range(len(coefficients)):
                self.check_error(BadReadings, {}, weights.sum_over, readings[:many])

    def test_no_sum_over_the_readings_of_a_web_is_negative(self):
        for sample in WEBS:
            readings = web_of(sample).readings(12)
            for form, root in samples():
                weights = Weights(form, Polynomial(root))
                self.assertGreaterEqual(weights.sum_over(readings), 0)
                self.assertIs(weights.bars(readings), False)

    def test_bars(self):
        weights = Weights("1", Polynomial([-1, 2]))
        below, zero, above = Fraction(1, 4) - Fraction(1, 10 ** 50), Fraction(1, 4), Fraction(3, 4)
        self.assertIs(weights.bars([1, HALF, below]), True)
        self.assertIs(weights.bars([1, HALF, below, 9, 9]), True)
        self.assertIs(weights.bars(readings=[1, HALF, zero]), False)
        self.assertIs(weights.bars([1, HALF, zero, -9]), False)
        self.assertIs(weights.bars([1, HALF, above]), False)

    def test_bars_and_short_lists(self):
        weights = Weights("1", Polynomial([-1, 2]))
        for readings in ([], [-1], [-1, 5], [1, HALF]):
            self.assertIs(weights.bars(readings), False)

    def test_the_first_entry_need_not_be_1(self):
        self.assertIs(Weights("x", Polynomial([1])).bars([7, -1]), True)
        self.assertIs(Weights("1", Polynomial([2])).bars([-1]), True)
        self.assertIs(Weights("1", Polynomial([2])).bars([0]), False)

    def test_bars_says_what_the_sum_says(self):
        lists = [[1, 2], [0, 0, 0], [1, -1, 1, -1, 1], [3, HALF, 0, -5, 2, 8, -9, 1, 1], [1] * 12]
        for form, root in samples():
            weights = Weights(form, Polynomial(root))
            coefficients = square(form, root)
            for readings in lists:
                long_enough = len(readings) >= len(coefficients)
                self.assertIs(weights.bars(readings), long_enough and total(coefficients, readings) < 0)


class EndWeights(WeightsCase):
    def inner_shares(self):
        """Lists of 0 to 12 shares strictly between 0 and 1."""
        return [shares[:-1] for shares in LINES]

    def test_form_degree_and_leading_coefficient(self):
        forms = {(0, 0): "1", (0, 1): "x", (1, 0): "x(1-x)", (1, 1): "1-x"}
        degrees = set()
        for shares in self.inner_shares():
            for end in (0, 1):
                weights = end_weights(shares, end)
                degree = len(shares) + 1
                degrees.add(degree)
                self.assertIs(weights.__class__, Weights)
                self.assertEqual(weights.degree, degree)
                self.assertEqual(weights.form, forms[end, degree % 2])
                self.check_number(weights.root[weights.root.degree], 1)
        self.assertLessEqual(set(range(1, 9)), degrees)

    def test_the_sum_over_the_readings_of_the_line_is_0(self):
        for shares in self.inner_shares():
            for end in (0, 1):
                weights = end_weights(shares, end)
                readings = [Fraction(r.numerator, r.denominator) for r in walk(shares + [end], len(shares) + 5)]
                for start in range(4):
                    self.check_number(weights.sum_over(readings[start:]), 0)

    def test_the_sum_with_another_last_entry(self):
        for shares in self.inner_shares():
            for end in (0, 1):
                weights = end_weights(shares, end)
                readings = [Fraction(r.numerator, r.denominator) for r in walk(shares + [end], len(shares) + 1)]
                for entry in (0, 1, HALF, Fraction(-3, 7), readings[-1] + Fraction(1, LONG)):
                    difference = entry - readings[-1] if end == 0 else readings[-1] - entry
                    self.check_number(weights.sum_over(readings[:-1] + [entry]), difference)

    def test_small_lists(self):
        share = Fraction(1, 3)
        self.check_weights(end_weights([], 0), "x", [1])
        self.check_weights(end_weights([], 1), "1-x", [1])
        self.check_weights(end_weights([share], 0), "1", [-share, 1])
        self.check_weights(end_weights([share], 1), "x(1-x)", [1])
        self.check_weights(end_weights(end=Fraction(1), shares=[share]), "x(1-x)", [1])
        self.check_weights(end_weights([share], Fraction(0)), "1", [-share, 1])

    def test_the_list_stays_as_it_is(self):
        shares = fraction_list("1/2 1/3 2/3")
        end_weights(shares, 1)
        self.assertEqual(shares, fraction_list("1/2 1/3 2/3"))

    def test_wrong_shares(self):
        for wrong in (0, 1, Fraction(0), Fraction(1), -1, 2, Fraction(-1, LONG), Fraction(LONG + 1, LONG)):
            for end in (0, 1, 2, HALF, -1):
                for place in range(4):
                    shares = fraction_list("1/2 1/3 2/3 3/4")
                    shares[place] = wrong
                    self.check_error(BadLine, {"place": place}, end_weights, shares, end)
                    shares[3] = wrong
                    self.check_error(BadLine, {"place": place}, end_weights, shares, end)

    def test_wrong_ends(self):
        for end in (-1, 2, HALF, Fraction(-1), Fraction(LONG + 1, LONG)):
            for shares in self.inner_shares():
                self.check_error(BadShare, {"share": end}, end_weights, shares, end)


class Examples(WeightsCase):
    def test_examples_of_the_interface(self):
        weights = Weights("x(1-x)", Polynomial([-1, 2]))
        found = [c.top for c in weights.polynomial().coefficients()] + [weights.degree, weights.times_x().form]
        self.assertEqual(found, [0, 1, -5, 8, -4, 4, "1-x"])
        weights = Weights("1", Polynomial([-1, 2]))
        readings = [1, HALF, Fraction(1, 5)]
        found = [str(weights.sum_over(readings)), weights.bars(readings), weights.bars(readings[:2])]
        self.assertEqual(found, ["-1/5", True, False])
        weights = end_weights([Fraction(3, 4), Fraction(2, 3)], 1)
        self.assertEqual([weights.form] + [str(c) for c in weights.root.coefficients()], ["1-x", "-1/4", "1"])


if __name__ == "__main__":
    unittest.main()
