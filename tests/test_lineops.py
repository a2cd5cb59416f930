"""Points 36 to 38: lines made from lines."""

import fractions
import math
import unittest

from tests.plain import LINES, PlainCase, fraction_list, glued_walk, ours, theirs, walk
from tracerline.errors import BadShare, BadTick
from tracerline.exact import Fraction
from tracerline.lineops import every, fading, fronted, glued, mixed, mixture, paired, waiting
from tracerline.lines import Line

TICKS = 26
SHARES = [0, 1, Fraction(0), Fraction(1), Fraction(1, 2), Fraction(2, 7), Fraction(13, 14)]
OUTSIDE = [-1, 2, Fraction(-1, 9), Fraction(10, 9)]


def rooms_of(shares):
    return Line(shares).rooms


def pairs():
    """Pairs of lists of shares of lines with 5 rooms together at most, and each list with itself."""
    return [(one, two) for one in LINES for two in LINES if rooms_of(one) + rooms_of(two) <= 5 or one is two]


class LineCase(PlainCase):
    def check_line(self, line, expected, most_rooms):
        """The line has these readings, and no more rooms than this."""
        self.assertIs(line.__class__, Line)
        self.assertEqual(walk(line.shares(), len(expected) - 1), expected)
        self.assertLessEqual(line.rooms, most_rooms)


class Mixed(LineCase):
    def test_readings(self):
        for one, two in pairs():
            for share in (0, Fraction(2, 7), 1):
                line = mixed(share, Line(one), Line(two))
                expected = [theirs(share) * left + (1 - theirs(share)) * right
                            for left, right in zip(walk(one, TICKS), walk(two, TICKS))]
                self.check_line(line, expected, rooms_of(one) + rooms_of(two))

    def test_shares_at_the_edges(self):
        one, two = Line(fraction_list("1/2 1/3 0")), Line(fraction_list("3/4 1"))
        for share in (0, Fraction(0)):
            self.assertEqual(mixed(share, one, two), two)
        for share in (1, Fraction(1)):
            self.assertEqual(mixed(share, one, two), one)
        for share in SHARES:
            self.assertEqual(mixed(share, one, one), one)

    def test_by_names_and_without_changes(self):
        shares = fraction_list("1/2 1/3 0")
        one, two = Line(shares), Line([1])
        line = mixed(share=Fraction(1, 2), line=one, other=two)
        self.check_number(line(1), fractions.Fraction(3, 4))
        self.assertEqual(one.shares(), shares)
        self.assertEqual(two.shares(), [1])
        line.shares().pop()
        self.check_number(line(1), fractions.Fraction(3, 4))

    def test_example(self):
        line = mixed(Fraction(1, 3), Line([0]), Line([1]))
        self.assertEqual([str(share) for share in line.shares()] + [str(every(5, line)(1))], ["2/3", "1", "2/3"])

    def test_errors(self):
        for share in OUTSIDE:
            self.check_error(BadShare, {"share": share}, mixed, share, Line([0]), Line([1]))


class Mixture(LineCase):
    def test_readings(self):
        samples = [
            ("1", ["1/2 0"]), ("1/2 1/2", ["0", "1"]), ("1/3 1/3 1/3", ["1/2 1", "1/3 1/4 0", "0"]),
            ("0 1 0", ["0", "1/3 1/4 0", "1"]), ("1/2 0 1/6 1/3", ["0", "1/2 1", "1/2 1", "1/2 0"]),
            ("1/10 2/10 3/10 4/10", ["0", "1", "1/2 0", "1/4 0"]),
        ]
        for numbers, texts in samples:
            parts = list(zip(fraction_list(numbers), [fraction_list(text) for text in texts]))
            line = mixture(*[(share, Line(shares)) for share, shares in parts])
            expected = [sum(theirs(share) * walk(shares, TICKS)[tick] for share, shares in parts)
                        for tick in range(TICKS + 1)]
            self.check_line(line, expected, sum(rooms_of(shares) for share, shares in parts))

    def test_one_part(self):
        for shares in LINES:
            for share in (1, Fraction(1)):
                self.assertEqual(mixture((share, Line(shares))), Line(shares))

    def test_the_same_line_several_times(self):
        line = Line(fraction_list("1/2 1/3 0"))
        self.assertEqual(mixture((Fraction(1, 2), line), (Fraction(1, 3), line), (Fraction(1, 6), line)), line)

    def test_integers_and_fractions(self):
        self.assertEqual(mixture((1, Line([0])), (0, Line([1]))), Line([0]))
        self.assertEqual(mixture((Fraction(0), Line([0])), (1, Line([1]))), Line([1]))

    def test_first_share_outside(self):
        half, line = Fraction(1, 2), Line([1])
        for share in OUTSIDE:
            self.check_error(BadShare, {"share": share}, mixture, (share, line))
            self.check_error(BadShare, {"share": share}, mixture, (half, line), (share, line), (-7, line))
            # The sum is 1, and the sum is 3: the share that is outside comes first.
            self.check_error(BadShare, {"share": share}, mixture, (share, line), (1 - share, line))
            self.check_error(BadShare, {"share": share}, mixture, (1, line), (1, line), (share, line))

    def test_sum_that_is_not_1(self):
        line = Line([1])
        half = Fraction(1, 2)
        for numbers, total in (
            ([half], half), ([0], 0), ([1, 1], 2), ([half, Fraction(1, 3)], Fraction(5, 6)), ([half, half, half], 3 * half),
            ([1, Fraction(1, 1000)], Fraction(1001, 1000)), ([0, 0, 0], 0),
        ):
            self.check_error(BadShare, {"share": total}, mixture, *[(number, line) for number in numbers])


class Paired(LineCase):
    def test_readings(self):
        for one, two in pairs():
            if rooms_of(one) * rooms_of(two) <= 9:
                line = paired(Line(one), Line(two))
                expected = [left * right for left, right in zip(walk(one, TICKS), walk(two, TICKS))]
                self.check_line(line, expected, rooms_of(one) * rooms_of(two))

    def test_with_the_plainest_lines(self):
        for shares in LINES:
            self.assertEqual(paired(line=Line(shares), other=Line([1])), Line(shares))
            self.assertEqual(paired(Line([0]), Line(shares)), Line([0]))


class Every(LineCase):
    def test_readings(self):
        for shares in LINES:
            for step in (1, 2, 3, 9):
                line = every(step, Line(shares))
                ticks = 2 * (rooms_of(shares) + line.rooms)
                self.check_line(line, walk(shares, step * ticks)[::step], rooms_of(shares))

    def test_step_1(self):
        for shares in LINES:
            self.assertEqual(every(1, Line(shares)), Line(shares))

    def test_limit_stays(self):
        line = Line(fraction_list("1/2 1/3 1/4 1"))
        self.check_number(every(step=7, line=line).limit(), theirs(line.limit()))

    def test_errors(self):
        for step in (0, -1, -9):
            self.check_error(BadTick, {"tick": step}, every, step, Line([1]))


class Waiting(LineCase):
    def test_readings(self):
        for shares in LINES:
            for share in (Fraction(1, 3), Fraction(6, 7)):
                line = waiting(share, Line(shares))
                part = theirs(share)
                moved = walk(shares, TICKS)
                expected = [
                    sum(math.comb(tick, j) * part ** j * (1 - part) ** (tick - j) * moved[j] for j in range(tick + 1))
                    for tick in range(TICKS + 1)
                ]
                self.check_line(line, expected, rooms_of(shares))

    def test_nothing_and_everything_moves(self):
        for shares in LINES:
            for share in (0, Fraction(0)):
                self.assertEqual(waiting(share, Line(shares)), Line([1]))
            for share in (1, Fraction(1)):
                self.assertEqual(waiting(share=share, line=Line(shares)), Line(shares))

    def test_errors(self):
        for share in OUTSIDE:
            self.check_error(BadShare, {"share": share}, waiting, share, Line([1]))


class Fading(LineCase):
    def test_readings(self):
        for shares in LINES:
            for share in SHARES:
                line = fading(share, Line(shares))
                expected = [theirs(share) ** tick * reading for tick, reading in enumerate(walk(shares, TICKS))]
                self.check_line(line, expected, rooms_of(shares))

    def test_everything_and_nothing_fades(self):
        for shares in LINES:
            for share in (0, Fraction(0)):
                self.assertEqual(fading(share, Line(shares)), Line([0]))
            for share in (1, Fraction(1)):
                self.assertEqual(fading(share=share, line=Line(shares)), Line(shares))

    def test_errors(self):
        for share in OUTSIDE:
            self.check_error(BadShare, {"share": share}, fading, share, Line([1]))


class Glued(LineCase):
    def test_readings_against_a_walk_over_both_lines(self):
        for one, two in pairs():
            for share in (0, Fraction(3, 5), 1):
                line = glued(share, Line(one), Line(two))
                self.check_line(line, glued_walk(share, one, two, TICKS), rooms_of(one) + rooms_of(two) - 1)

    def test_first_returns(self):
        one, two = fraction_list("1/2 1/3 1"), fraction_list("2/3 3/4 1/5 0")
        share = fractions.Fraction(1, 4)
        line = glued(Fraction(1, 4), Line(one), Line(two))
        for tick, (first, left, right) in enumerate(zip(*[self.first_returns(walk(shares, 12))
                                                          for shares in (line.shares(), one, two)])):
            self.assertEqual(first, share * left + (1 - share) * right, tick)

    def first_returns(self, readings):
        found = [fractions.Fraction(0)]
        for tick in range(1, len(readings)):
            found.append(readings[tick] - sum(found[j] * readings[tick - j] for j in range(1, tick)))
        return found

    def test_shares_at_the_edges(self):
        one, two = Line(fraction_list("1/2 1/3 0")), Line(fraction_list("3/4 1"))
        for share in (0, Fraction(0)):
            self.assertEqual(glued(share, one, two), two)
        for share in (1, Fraction(1)):
            self.assertEqual(glued(share=share, line=one, other=two), one)
        for share in SHARES:
            self.assertEqual(glued(share, one, one), one)

    def test_errors(self):
        for share in OUTSIDE:
            self.check_error(BadShare, {"share": share}, glued, share, Line([0]), Line([1]))


class Fronted(LineCase):
    def test_shares(self):
        for shares in LINES:
            line = fronted(Fraction(1, 3), Fraction(3, 4), Line(shares))
            self.check_numbers(line.shares(), [fractions.Fraction(1, 3), fractions.Fraction(3, 4)]
                               + [theirs(share) for share in shares])
            self.assertEqual((line.rooms, line.passages), (rooms_of(shares) + 1, Line(shares).passages + 1))

    def test_by_names(self):
        line = fronted(first=Fraction(1, 2), second=Fraction(1, 3), line=Line([0]))
        self.assertEqual(line, Line(fraction_list("1/2 1/3 0")))

    def test_errors(self):
        half = Fraction(1, 2)
        for share in OUTSIDE + [0, 1, Fraction(0), Fraction(1)]:
            self.check_error(BadShare, {"share": share}, fronted, share, half, Line([1]))
            self.check_error(BadShare, {"share": share}, fronted, half, share, Line([1]))
            self.check_error(BadShare, {"share": share}, fronted, share, 7, Line([1]))


class LongFractions(LineCase):
    def test_lines_of_long_shares(self):
        long = ours(fractions.Fraction(10 ** 200 + 1, 3 * 10 ** 200 + 7))
        one, two = [long, 1 - long, 1], [1 - long, 0]
        expected = [theirs(long) * left + (1 - theirs(long)) * right
                    for left, right in zip(walk(one, 12), walk(two, 12))]
        self.check_line(mixed(long, Line(one), Line(two)), expected, 3)
        expected = [left * right for left, right in zip(walk(one, 12), walk(two, 12))]
        self.check_line(paired(Line(one), Line(two)), expected, 2)

    def test_results_are_passed_on(self):
        line = Line(fraction_list("1/2 1/3 1"))
        readings = walk(line.shares(), 40)
        found = every(2, fading(Fraction(1, 3), mixed(Fraction(1, 2), line, Line([1]))))
        expected = [fractions.Fraction(1, 3) ** (2 * tick) * (readings[2 * tick] + 1) / 2 for tick in range(21)]
        self.check_line(found, expected, 3)


if __name__ == "__main__":
    unittest.main()
