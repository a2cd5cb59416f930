"""Exact fractions and the texts that write them."""

from math import gcd, lcm

from tracerline.errors import BadFraction, BadText

DIGITS = "0123456789"
MOST_DIGITS = 60


class Fraction:
    """The fraction top / bottom in lowest terms, with a bottom of at least 1."""

    def __init__(self, top, bottom=1):
        if bottom == 0:
            raise BadFraction()
        common = gcd(top, bottom)
        # Dividing by a negative number moves the sign of the bottom to the top.
        if bottom < 0:
            common = -common
        self.top = top // common
        self.bottom = bottom // common

    def __str__(self):
        if self.bottom == 1:
            return str(self.top)
        return f"{self.top}/{self.bottom}"

    def __add__(self, other):
        if not _is_number(other):
            return NotImplemented
        number = as_fraction(other)
        top = self.top * number.bottom + number.top * self.bottom
        return Fraction(top, self.bottom * number.bottom)

    def __radd__(self, other):
        return self + other

    def __sub__(self, other):
        if not _is_number(other):
            return NotImplemented
        number = as_fraction(other)
        top = self.top * number.bottom - number.top * self.bottom
        return Fraction(top, self.bottom * number.bottom)

    def __rsub__(self, other):
        if not _is_number(other):
            return NotImplemented
        return as_fraction(other) - self

    def __mul__(self, other):
        if not _is_number(other):
            return NotImplemented
        number = as_fraction(other)
        return Fraction(self.top * number.top, self.bottom * number.bottom)

    def __rmul__(self, other):
        return self * other

    def __neg__(self):
        return Fraction(-self.top, self.bottom)

    def __abs__(self):
        return Fraction(abs(self.top), self.bottom)

    def __bool__(self):
        return bool(self.top)

    def __eq__(self, other):
        if not _is_number(other):
            return NotImplemented
        return _order(self, other) == 0

    def __ne__(self, other):
        return not self == other

    def __lt__(self, other):
        if not _is_number(other):
            return NotImplemented
        return _order(self, other) < 0

    def __le__(self, other):
        if not _is_number(other):
            return NotImplemented
        return _order(self, other) <= 0

    def __gt__(self, other):
        if not _is_number(other):
            return NotImplemented
        return _order(self, other) > 0

    def __ge__(self, other):
        if not _is_number(other):
            return NotImplemented
        return _order(self, other) >= 0

    def over(self, other):
        """The exact quotient by a number; a zero number gives the bottom 0, which the constructor rejects."""
        number = as_fraction(other)
        return Fraction(self.top * number.bottom, self.bottom * number.top)


def as_fraction(number):
    """The number, a Fraction or an integer, as a Fraction."""
    if isinstance(number, Fraction):
        return number
    return Fraction(number)


def common_bottom(numbers):
    """The least integer from 1 on that makes an integer of each of the Fractions when it is multiplied by it."""
    common = 1
    for number in numbers:
        common = lcm(common, number.bottom)
    return common


def over_bottom(number, bottom):
    """The integer of which the quotient by the bottom is the Fraction; the bottom is one of common_bottom."""
    return number.top * (bottom // number.bottom)


def _is_number(thing):
    """Whether the thing is a Fraction or an integer."""
    return isinstance(thing, (Fraction, int))


def _order(fraction, number):
    """An integer with the sign of fraction - number."""
    other = as_fraction(number)
    return fraction.top * other.bottom - other.top * fraction.bottom


def numeral_end(text, start):
    """The index behind the longest numeral that begins at the index start, or start if none begins there."""
    if text[start:start + 1] == "0":
        return start + 1
    end = start
    while end < len(text) and end - start < MOST_DIGITS and text[end] in DIGITS:
        end = end + 1
    return end


def is_numeral(text):
    """Whether the whole text is a numeral."""
    return text != "" and numeral_end(text, 0) == len(text)


def read_fraction(text):
    """The Fraction that the text writes. Raises BadText(1, column) if the text is not valid."""
    start = 1 if text.startswith("-") else 0
    slash = numeral_end(text, start)
    if slash == start or text[:slash] == "-0":
        raise BadText(1, start + 1)
    top = int(text[:slash])
    if slash == len(text):
        return Fraction(top)
    if text[slash] != "/":
        raise BadText(1, slash + 1)
    return Fraction(top, _read_bottom(text, slash + 1))


def _read_bottom(text, start):
    """The integer that the rest of the text writes from the index start on: a numeral other than 0."""
    end = numeral_end(text, start)
    if end == start or text[start] == "0":
        raise BadText(1, start + 1)
    if end < len(text):
        raise BadText(1, end + 1)
    return int(text[start:])
