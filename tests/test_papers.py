"""Points 30 to 32, and of points 3 to 5 what concerns Paper."""

import unittest

from tests.plain import (
    WEBS, PlainCase, all_theirs, fraction_list, lists_of_readings, ours, product, range_behind, shares_of, theirs,
    total, web_of,
)
from tracerline.errors import BadForm, BadReadings, BadTick, Barred
from tracerline.exact import Fraction
from tracerline.papers import Paper, holds, paper_for
from tracerline.polynomials import Polynomial
from tracerline.weights import Weights

HALF = Fraction(1, 2)
KINDS = ("least", "greatest")
ONE = Weights("1", Polynomial([1]))
SETTLED = [fraction_list(text) for text in (
    "1 0", "1 1", "1 0 0 0", "1 1 1", "1 1/2 1/4", "1 1/2 1/2", "1 1/2 1/4 1/8 1/16", "1 1/2 1/2 1/2 1/2",
    "1 3/4 11/16 43/64", "1 3/4 11/16 43/64 171/256", "1 1/3 1/6 1/12", "1 1/3 1/6 1/12 1/24 1/48",
)]


def begun():
    """Lists of 1 to 9 readings, open ones and settled ones."""
    found = list(SETTLED)
    for number, readings in enumerate(lists_of_readings()):
        found.append(readings[:1 + number % 9])
    return found


def plain_value(readings, tick, kind):
    """The least or the greatest reading at the tick."""
    if tick < len(readings):
        return theirs(readings[tick])
    return range_behind(shares_of(readings), tick)[KINDS.index(kind)]


def plain_holds(paper, readings):
    """Whether the paper holds, by sums and products of lists of coefficients."""
    if paper.kind not in KINDS or paper.tick < 0 or paper.rest.degree >= len(readings):
        return False
    quotient = all_theirs(paper.quotient.coefficients())
    if any(number < 0 for number in quotient):
        return False
    sign = 1 if paper.kind == "least" else -1
    shown = [sign * number for number in product(paper.weights.polynomial().coefficients(), quotient or [0])]
    rest = all_theirs(paper.rest.coefficients())
    size = max(len(shown), len(rest), paper.tick + 1)
    shown, rest = shown + [0] * (size - len(shown)), rest + [0] * (size - len(rest))
    return all(shown[k] + rest[k] == (1 if k == paper.tick else 0) for k in range(size))


def changed(paper, **attributes):
    """The paper with other attributes."""
    values = {name: getattr(paper, name) for name in ("kind", "tick", "weights", "quotient", "rest")}
    values.update(attributes)
    return Paper(**values)


class Making(PlainCase):
    def test_the_constructor_keeps_its_arguments(self):
        self.assertEqual(Paper.KINDS, KINDS)
        self.assertIs(Paper.KINDS.__class__, tuple)
        quotient, rest = Polynomial([-1]), Polynomial([0, 0, 5])
        for kind, tick in (("least", 3), ("greatest", 0), ("", -5), ("neither", 40)):
            for paper in (Paper(kind, tick, ONE, quotient, rest),
                          Paper(rest=rest, quotient=quotient, weights=ONE, tick=tick, kind=kind)):
                self.assertLessEqual({"kind", "tick", "weights", "quotient", "rest"}, set(vars(paper)))
                self.assertEqual((paper.kind, paper.tick), (kind, tick))
                self.assertIs(paper.weights, ONE)
                self.assertIs(paper.quotient, quotient)
                self.assertIs(paper.rest, rest)
                self.check_number(paper.value([1, 2, 3]), 15)

    def test_value(self):
        for coefficients in ([], [4], [0, 1], [HALF, -1, 0, 2]):
            paper = Paper("least", 3, ONE, Polynomial(), Polynomial(coefficients))
            readings = [1, HALF, Fraction(1, 3), Fraction(2, 7), 5]
            for many in range(6):
                if many < len(coefficients):
                    self.check_error(BadReadings, {}, paper.value, readings[:many])
                else:
                    self.check_number(paper.value(readings=readings[:many]), total(coefficients, readings))


class Holds(PlainCase):
    def papers(self):
        """Papers that hold, with their readings, so that each needs each of its readings."""
        found = []
        for text in ("1 1/2 3/8", "1 3/4", "1 1/3 1/5 1/7", "1 1/2 1/4", "1 1/2 1/2", "1 3/4 11/16 43/64"):
            readings = fraction_list(text)
            for kind in KINDS:
                for tick in (len(readings), len(readings) + 2, len(readings) + 5):
                    paper = paper_for(readings, tick, kind)
                    found.append((paper, readings[:paper.rest.degree + 1]))
        return found

    def check_false(self, paper, readings):
        self.assertIs(plain_holds(paper, readings), False)
        self.assertIs(holds(paper, readings), False)

    def test_papers_that_hold(self):
        for paper, readings in self.papers():
            self.assertIs(holds(paper, readings), True)
            self.assertIs(holds(paper, readings + [7]), True)
            self.assertIs(holds(readings=readings, paper=paper), True)

    def test_another_kind(self):
        for paper, readings in self.papers():
            other = KINDS[1 - KINDS.index(paper.kind)]
            for kind in (other, "", "Least", "most", "least ", "greatest least"):
                self.check_false(changed(paper, kind=kind), readings)

    def test_a_kind_alone(self):
        for kind in ("", "Least", "LEAST", "equal"):
            self.assertIs(holds(Paper(kind, 0, ONE, Polynomial(), Polynomial([1])), [1]), False)
        for kind in KINDS:
            self.assertIs(holds(Paper(kind, 0, ONE, Polynomial(), Polynomial([1])), [1]), True)

    def test_a_negative_tick(self):
        for paper, readings in self.papers():
            for tick in (-1, -2, -paper.tick):
                self.check_false(changed(paper, tick=tick), readings)
        self.check_false(Paper("least", -1, ONE, Polynomial(), Polynomial()), [1])
        self.check_false(Paper("least", -1, ONE, Polynomial(), Polynomial([1])), [1])
        self.check_false(Paper("greatest", -1, ONE, Polynomial([1]), Polynomial([1])), [1])

    def test_a_negative_coefficient_of_the_quotient(self):
        readings = fraction_list("1 1/2 3/8 5/16 9/32 1/4")
        for weights in (ONE, Weights("x", Polynomial([-1, 2])), Weights("x(1-x)", Polynomial([1]))):
            for kind, sign in (("least", 1), ("greatest", -1)):
                for coefficients in ([-1], [1, -1], [-HALF, 2], [0, Fraction(-1, 10 ** 50), 1]):
                    shown = weights.polynomial() * Polynomial(coefficients)
                    rest = Polynomial.power(3) - shown.scaled(sign)
                    paper = Paper(kind, 3, weights, Polynomial(coefficients), rest)
                    self.check_false(paper, readings)
                    good = Polynomial([abs(number) for number in coefficients])
                    rest = Polynomial.power(3) - (weights.polynomial() * good).scaled(sign)
                    self.assertIs(holds(Paper(kind, 3, weights, good, rest), readings), True)

    def test_a_shorter_list(self):
        for paper, readings in self.papers():
            for many in range(len(readings)):
                self.check_false(paper, readings[:many])
        self.check_false(Paper("least", 1, ONE, Polynomial(), Polynomial([0, 1])), [1])
        self.assertIs(holds(Paper("least", 1, ONE, Polynomial(), Polynomial([0, 1])), [1, HALF]), True)

    def test_a_rest_that_is_too_long(self):
        for paper, readings in self.papers():
            product_of_both = paper.weights.polynomial() * paper.quotient
            sign = 1 if paper.kind == "least" else -1
            longer = paper.quotient + Polynomial.power(paper.quotient.degree + 1)
            more = paper.weights.polynomial() * longer - product_of_both
            paper = changed(paper, quotient=longer, rest=paper.rest - more.scaled(sign))
            self.check_false(paper, readings)
            self.assertIs(holds(paper, readings + [1] * more.degree), True)

    def test_another_polynomial(self):
        for paper, readings in self.papers():
            for wrong in (
                changed(paper, rest=paper.rest + Polynomial([Fraction(1, 10 ** 50)])),
                changed(paper, rest=-paper.rest),
                changed(paper, quotient=paper.quotient + Polynomial([1])),
                changed(paper, quotient=paper.quotient.scaled(2)),
                changed(paper, quotient=Polynomial()),
                changed(paper, tick=paper.tick + 1),
                changed(paper, tick=paper.tick - 1),
                changed(paper, weights=paper.weights.times_x()),
                changed(paper, weights=ONE),
            ):
                self.check_false(wrong, readings)


class PaperFor(PlainCase):
    def check_paper(self, readings, tick, kind):
        paper = paper_for(readings, tick, kind)
        self.assertIs(paper.__class__, Paper)
        self.assertEqual((paper.kind, paper.tick), (kind, tick))
        self.assertIs(paper.weights.__class__, Weights)
        self.assertIs(paper.quotient.__class__, Polynomial)
        self.assertIs(paper.rest.__class__, Polynomial)
        self.assertIs(plain_holds(paper, readings), True)
        self.assertIs(holds(paper, readings), True)
        self.check_number(paper.value(readings), plain_value(readings, tick, kind))

    def test_open_and_settled_readings(self):
        for readings in begun():
            for tick in list(range(len(readings) + 3)) + [12]:
                for kind in KINDS:
                    self.check_paper(readings, tick, kind)

    def test_the_tick_40(self):
        for readings in begun()[::4]:
            for kind in KINDS:
                self.check_paper(readings, 40, kind)

    def test_thirteen_readings(self):
        for readings in lists_of_readings()[-4:]:
            for kind in KINDS:
                self.check_paper(readings, 15, kind)

    def test_the_bound_is_one_for_other_webs(self):
        for sample in WEBS:
            readings = web_of(sample).readings(9)
            for many in (1, 2, 3):
                for tick in (4, 9):
                    least = paper_for(readings[:many], tick, "least")
                    greatest = paper_for(readings[:many], kind="greatest", tick=tick)
                    self.assertLessEqual(least.value(readings), readings[tick])
                    self.assertLessEqual(readings[tick], greatest.value(readings))

    def test_wrong_kinds_ahead_of_all_other_errors(self):
        for kind in ("", "Least", "most", "greatest ", "least,greatest"):
            for readings in ([], [2], [1, 2], [1, HALF]):
                for tick in (-1, 0, 5):
                    self.check_error(BadForm, {"form": kind}, paper_for, readings, tick, kind)

    def test_the_errors_of_later(self):
        for kind in KINDS:
            for tick in (-1, 0, 5):
                for readings in ([], [0], [2, 5]):
                    self.check_error(BadReadings, {}, paper_for, readings, tick, kind)
                for readings, bad in ([1, 2], 1), ([1, HALF, Fraction(1, 5), 9], 2), ([1, 1, HALF], 2):
                    with self.assertRaises(Barred) as caught:
                        paper_for(readings, tick, kind)
                    self.assertEqual(caught.exception.tick, bad)
                    self.assertIs(caught.exception.weights.bars(readings[:bad + 1]), True)
            for readings in begun():
                self.check_error(BadTick, {"tick": -1}, paper_for, readings, -1, kind)

    def test_the_list_stays_as_it_is(self):
        readings = [1, HALF, Fraction(3, 8)]
        paper = paper_for(readings, 5, "least")
        holds(paper, readings)
        paper.value(readings)
        self.assertEqual(all_theirs(readings), all_theirs([1, HALF, Fraction(3, 8)]))
        self.assertIs(readings[0].__class__, int)


class Examples(PlainCase):
    def test_examples_of_the_interface(self):
        readings = [1, Fraction(3, 4)]
        paper = paper_for(readings, 3, "least")
        found = [str(paper.value(readings)), holds(paper, readings), holds(paper, [1])]
        self.assertEqual(found, ["27/64", True, False])
        weights = Weights("x(1-x)", Polynomial([1]))
        paper = Paper("greatest", 3, weights, Polynomial([1, 1]), Polynomial([0, 1]))
        self.assertEqual([holds(paper, [1, 0]), paper.value([1, 5]).top], [True, 5])
        self.assertEqual(ours(theirs(paper.value([1, 5]))), 5)


if __name__ == "__main__":
    unittest.main()
