"""Papers: bounds for later readings that can be checked without finding them."""

from tracerline.errors import BadForm, BadTick
from tracerline.polynomials import Polynomial
from tracerline.reader import reader_of
from tracerline.weights import bounding_weights


class Paper:
    """A bound for the reading at a tick, together with what shows it. Nothing is checked here."""

    KINDS = ("least", "greatest")

    def __init__(self, kind, tick, weights, quotient, rest):
        self.kind = kind
        self.tick = tick
        self.weights = weights
        self.quotient = quotient
        self.rest = rest

    def value(self, readings):
        """The sum of the rest over the readings: the bound. Raises BadReadings if there are too few."""
        return self.rest.sum_over(readings)


def holds(paper, readings):
    """Whether the paper shows its bound for every web that shows the readings."""
    if paper.kind not in Paper.KINDS or paper.tick < 0:
        return False
    if paper.quotient.has_negative():
        return False
    if paper.rest.degree >= len(readings):
        return False
    product = _signed(paper.weights, paper.kind) * paper.quotient
    return Polynomial.power(paper.tick) == paper.rest + product


def paper_for(readings, tick, kind):
    """A paper of this kind that holds for the readings and has the best bound. Raises BadForm(kind)."""
    if kind not in Paper.KINDS:
        raise BadForm(kind)
    shares = reader_of(readings).shares()
    if tick < 0:
        raise BadTick(tick)
    weights = bounding_weights(shares, 0 if kind == "least" else 1)
    quotient, rest = Polynomial.power(tick).divided(_signed(weights, kind))
    return Paper(kind, tick, weights, quotient, rest)


def _signed(weights, kind):
    """The polynomial of the weights for the kind least, its negative for the kind greatest."""
    if kind == "least":
        return weights.polynomial()
    return -weights.polynomial()
