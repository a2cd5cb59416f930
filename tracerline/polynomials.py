"""Polynomials in x with exact coefficients."""

from math import gcd, lcm

from tracerline.errors import BadPolynomial, BadReadings
from tracerline.exact import Fraction, as_fraction, common_bottom, over_bottom


class Polynomial:
    """The polynomial whose entry k is the coefficient of x ** k; zeros at the end are dropped.

    The coefficients are integers over one bottom, which have no divisor in common with it: so sums of many products
    are reduced only once, and equal polynomials are kept in the same way.
    """

    def __init__(self, coefficients=()):
        kept = [as_fraction(number) for number in coefficients]
        while kept and not kept[-1]:
            kept.pop()
        self._bottom = common_bottom(kept)
        self._tops = [over_bottom(number, self._bottom) for number in kept]

    @staticmethod
    def power(k):
        """The polynomial x ** k."""
        return Polynomial([0] * k + [1])

    @property
    def degree(self):
        """The greatest power of x with a coefficient other than zero, -1 for the zero polynomial."""
        return len(self._tops) - 1

    def coefficients(self):
        """The coefficients from that of x ** 0 to that of x ** degree, in a new list."""
        return [Fraction(top, self._bottom) for top in self._tops]

    def has_negative(self):
        """Whether a coefficient is negative."""
        return any([top < 0 for top in self._tops])

    def __len__(self):
        return len(self._tops)

    def __getitem__(self, at):
        if at < len(self._tops):
            return Fraction(self._tops[at], self._bottom)
        return Fraction(0)

    def __iter__(self):
        # There is a coefficient for every index, so iterating by indexes would never end.
        raise TypeError("a polynomial is not iterated over; take its coefficients()")

    def __call__(self, x):
        place = as_fraction(x)
        total = 0
        scale = 1
        for top in self._tops[::-1]:
            total = total * place.top + top * scale
            scale = scale * place.bottom
        # The scale is one power ahead of the bottom of the total.
        return Fraction(total * place.bottom, scale * self._bottom)

    def __eq__(self, other):
        if not isinstance(other, Polynomial):
            return NotImplemented
        return self._tops == other._tops and self._bottom == other._bottom

    def __ne__(self, other):
        return not self == other

    def __add__(self, other):
        if not isinstance(other, Polynomial):
            return NotImplemented
        bottom = lcm(self._bottom, other._bottom)
        size = max(len(self), len(other))
        ones = _tops_over(self, bottom, size)
        twos = _tops_over(other, bottom, size)
        return _made([one + two for one, two in zip(ones, twos)], bottom)

    def __sub__(self, other):
        if not isinstance(other, Polynomial):
            return NotImplemented
        return self + -other

    def __mul__(self, other):
        if not isinstance(other, Polynomial):
            return NotImplemented
        sums = [0] * (len(self) + len(other))
        for j, one in enumerate(self._tops):
            for k, two in enumerate(other._tops):
                sums[j + k] = sums[j + k] + one * two
        return _made(sums, self._bottom * other._bottom)

    def __neg__(self):
        return _made([-top for top in self._tops], self._bottom)

    def scaled(self, number):
        """The polynomial with every coefficient multiplied by the number."""
        factor = as_fraction(number)
        return _made([top * factor.top for top in self._tops], self._bottom * factor.bottom)

    def raised(self, k):
        """The polynomial times x ** k."""
        return _made([0] * k + self._tops, self._bottom)

    def divided(self, divisor):
        """The tuple (quotient, rest). Raises BadPolynomial if the divisor is the zero polynomial."""
        if len(divisor) == 0:
            raise BadPolynomial()
        rest = list(self._tops)
        quotient = []
        scale = self._bottom
        # The greatest power of the divisor takes one power of the rest away at each step. To stay among the integers,
        # all that is there is multiplied first, by no more than it takes.
        while len(rest) >= len(divisor):
            common = gcd(rest[-1], divisor._tops[-1])
            factor, part = divisor._tops[-1] // common, rest[-1] // common
            start = len(rest) - len(divisor)
            rest = [factor * top for top in rest[:-1]]
            for k in range(divisor.degree):
                rest[start + k] = rest[start + k] - part * divisor._tops[k]
            quotient = [part] + [factor * top for top in quotient]
            scale = scale * factor
        return _made([top * divisor._bottom for top in quotient], scale), _made(rest, scale)

    def sum_over(self, readings):
        """The sum of coefficient k times readings[k]. Raises BadReadings if there are too few readings."""
        if len(readings) < len(self._tops):
            raise BadReadings()
        numbers = [as_fraction(reading) for reading in readings[:len(self._tops)]]
        bottom = common_bottom(numbers)
        total = 0
        for top, number in zip(self._tops, numbers):
            total = total + top * over_bottom(number, bottom)
        return Fraction(total, self._bottom * bottom)


def _tops_over(polynomial, bottom, size):
    """So many coefficients as integers over the bottom, which is a multiple of that of the polynomial."""
    factor = bottom // polynomial._bottom
    return [top * factor for top in polynomial._tops] + [0] * (size - len(polynomial))


def _made(tops, bottom):
    """The polynomial with the coefficients top / bottom."""
    kept = list(tops)
    while kept and kept[-1] == 0:
        kept.pop()
    common = abs(bottom)
    for top in kept:
        # Most often the first coefficients show that there is nothing to divide by.
        if common == 1:
            break
        common = gcd(common, top)
    # Dividing by a negative number moves the sign of the bottom to the coefficients.
    if bottom < 0:
        common = -common
    made = Polynomial()
    made._tops = [top // common for top in kept]
    made._bottom = bottom // common
    return made
