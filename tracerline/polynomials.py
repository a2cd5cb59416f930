"""Polynomials in x with exact coefficients."""

from tracerline.errors import BadPolynomial, BadReadings
from tracerline.exact import Fraction, as_fraction


class Polynomial:
    """The polynomial whose entry k is the coefficient of x ** k; zeros at the end are dropped."""

    def __init__(self, coefficients=()):
        kept = [as_fraction(number) for number in coefficients]
        while kept and not kept[-1]:
            kept.pop()
        self._kept = kept

    @staticmethod
    def power(k):
        """The polynomial x ** k."""
        return Polynomial([0] * k + [1])

    @property
    def degree(self):
        """The greatest power of x with a coefficient other than zero, -1 for the zero polynomial."""
        return len(self._kept) - 1

    def coefficients(self):
        """The coefficients from that of x ** 0 to that of x ** degree, in a new list."""
        return list(self._kept)

    def __len__(self):
        return len(self._kept)

    def __getitem__(self, at):
        if at < len(self._kept):
            return self._kept[at]
        return Fraction(0)

    def __iter__(self):
        # There is a coefficient for every index, so iterating by indexes would never end.
        raise TypeError("a polynomial is not iterated over; take its coefficients()")

    def __call__(self, x):
        total = Fraction(0)
        for coefficient in self._kept[::-1]:
            total = total * x + coefficient
        return total

    def __eq__(self, other):
        if not isinstance(other, Polynomial):
            return NotImplemented
        return self._kept == other._kept

    def __ne__(self, other):
        return not self == other

    def __add__(self, other):
        if not isinstance(other, Polynomial):
            return NotImplemented
        size = max(len(self), len(other))
        return Polynomial([self[k] + other[k] for k in range(size)])

    def __sub__(self, other):
        if not isinstance(other, Polynomial):
            return NotImplemented
        size = max(len(self), len(other))
        return Polynomial([self[k] - other[k] for k in range(size)])

    def __mul__(self, other):
        if not isinstance(other, Polynomial):
            return NotImplemented
        size = len(self) + len(other)
        sums = [0] * size
        for j in range(len(self)):
            for k in range(len(other)):
                sums[j + k] = sums[j + k] + self[j] * other[k]
        return Polynomial(sums)

    def __neg__(self):
        return self.scaled(-1)

    def scaled(self, number):
        """The polynomial with every coefficient multiplied by the number."""
        return Polynomial([coefficient * number for coefficient in self._kept])

    def raised(self, k):
        """The polynomial times x ** k."""
        return Polynomial([0] * k + self._kept)

    def divided(self, divisor):
        """The tuple (quotient, rest). Raises BadPolynomial if the divisor is the zero polynomial."""
        if len(divisor) == 0:
            raise BadPolynomial()
        rest = list(self._kept)
        # The greatest power of the divisor takes one power of the rest away at each step.
        steps = len(rest) - divisor.degree
        quotient = [0] * steps
        for step in range(steps - 1, -1, -1):
            part = rest[step + divisor.degree].over(divisor[divisor.degree])
            quotient[step] = part
            for k in range(len(divisor)):
                rest[step + k] = rest[step + k] - part * divisor[k]
        return Polynomial(quotient), Polynomial(rest)

    def sum_over(self, readings):
        """The sum of coefficient k times readings[k]. Raises BadReadings if there are too few readings."""
        if len(readings) < len(self._kept):
            raise BadReadings()
        total = Fraction(0)
        for coefficient, reading in zip(self._kept, readings):
            total = total + coefficient * reading
        return total
