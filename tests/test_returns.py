"""The internal module returns, which lineops and oneway share."""

import fractions

from tests.plain import LINES, PlainCase, all_theirs, fraction_list, ours, walk
from tracerline.returns import come_again, readings_of, returns_of


class Returns(PlainCase):
    def test_there_and_back(self):
        for shares in LINES:
            readings = [ours(reading) for reading in walk(shares, 10)]
            returns = returns_of(readings)
            self.assertEqual(len(returns), 11)
            self.check_numbers(returns[:1], [0])
            for tick in range(1, 11):
                met = sum(one * two for one, two in zip(all_theirs(returns[1:]), walk(shares, 10)[tick - 1::-1]))
                self.assertEqual(met, walk(shares, 10)[tick])
            self.check_numbers(readings_of(returns), walk(shares, 10))

    def test_what_comes_again_stops_with_the_returns(self):
        returns, readings = fraction_list("0 1/2 1/3"), fraction_list("1 2 3 4")
        self.check_number(come_again(returns, readings, 1), fractions.Fraction(1, 2))
        self.check_number(come_again(returns, readings, 2), 1 + fractions.Fraction(1, 3))
        self.check_number(come_again(returns, readings, 4), 2 + 1)
        self.check_number(come_again([0], readings, 3), 0)
