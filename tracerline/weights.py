"""Weights: polynomials whose sums over the readings of a web are never negative."""

from tracerline.chains import chain_of, half_of
from tracerline.errors import BadForm, BadLine, BadPolynomial, BadShare
from tracerline.exact import Fraction
from tracerline.polynomials import Polynomial

FACTORS = {"1": (1,), "x": (0, 1), "1-x": (1, -1), "x(1-x)": (0, 1, -1)}

# For each form: the form of the product with x (with 1 - x), and what the root is multiplied by.
TIMES_X = {
    "1": ("x", (1,)),
    "x": ("1", (0, 1)),
    "1-x": ("x(1-x)", (1,)),
    "x(1-x)": ("1-x", (0, 1)),
}
TIMES_REST = {
    "1": ("1-x", (1,)),
    "x": ("x(1-x)", (1,)),
    "1-x": ("1", (1, -1)),
    "x(1-x)": ("x", (1, -1)),
}


class Weights:
    """The polynomial of the form times the root times the root."""

    FORMS = ("1", "x", "1-x", "x(1-x)")

    def __init__(self, form, root):
        if form not in Weights.FORMS:
            raise BadForm(form)
        if len(root) == 0:
            raise BadPolynomial()
        self.form = form
        self.root = root

    @property
    def degree(self):
        """The degree of the weights."""
        return len(FACTORS[self.form]) - 1 + 2 * self.root.degree

    def polynomial(self):
        """The weights as a polynomial."""
        return self.half() * self.root

    def half(self):
        """The polynomial of the form times the root."""
        return Polynomial(FACTORS[self.form]) * self.root

    def __call__(self, x):
        value = self.root(x)
        factor = Polynomial(FACTORS[self.form])
        return factor(x) * value * value

    def sum_over(self, readings):
        """The sum of coefficient k times readings[k]. Raises BadReadings if there are too few readings."""
        return self.polynomial().sum_over(readings)

    def bars(self, readings):
        """Whether the sum over the list is below 0 and the list is long enough: then no web shows it."""
        return len(readings) > self.degree and self.sum_over(readings) < 0

    def times_x(self):
        """The weights times x."""
        form, factor = TIMES_X[self.form]
        return Weights(form, self.root * Polynomial(factor))

    def times_rest(self):
        """The weights times 1 - x."""
        form, factor = TIMES_REST[self.form]
        return Weights(form, self.root * Polynomial(factor))


def end_weights(shares, end):
    """The weights whose sum is 0 over the readings of the line with these shares and the end, 0 or 1.

    Raises BadLine(place) if a share is not strictly between 0 and 1, and BadShare(end).
    """
    for place, share in enumerate(shares):
        if share <= 0 or share >= 1:
            raise BadLine(place)
    if end != 0 and end != 1:
        raise BadShare(end)
    chain = chain_of(shares)
    # The degree of the weights is the index of the last link.
    even = len(chain) % 2 == 1
    if end == 0:
        return Weights("1" if even else "x", chain[-1])
    return Weights("x(1-x)" if even else "1-x", _root_of_end_1(chain))


def bounding_weights(shares, side):
    """Weights that bound the readings behind those of the shares: from below (side 0) or from above (side 1).

    The shares are those of a reader. If they are not settled, the degree is the tick of the next reading. If they
    are, it is the tick at which they were settled, or one more.
    """
    if not shares or 0 < shares[-1] < 1:
        return end_weights(shares, side)
    weights = end_weights(shares[:-1], shares[-1])
    if shares[-1] == side:
        return weights
    return weights.times_rest()


def _root_of_end_1(chain):
    """The root of the weights of the end 1."""
    half = half_of(chain)
    before = chain[-2]
    # The difference is zero at the place 1, so the division leaves no rest.
    quotient, _ = (half.scaled(before(1)) - before.scaled(half(1))).divided(Polynomial([-1, 1]))
    return quotient.scaled(Fraction(1).over(quotient[quotient.degree]))
