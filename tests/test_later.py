"""Points 27 to 29."""

import unittest

from tests.plain import (
    LINES, LONG, WEBS, PlainCase, all_theirs, fraction_list, lists_of_readings, ours, range_behind, shares_of, web_of,
)
from tracerline.errors import BadReadings, BadShare, BadTick, Barred, OutOfRange
from tracerline.exact import Fraction
from tracerline.later import fewest, later, limit_between, reached, worth_between
from tracerline.lines import Line
from tracerline.reader import explained

HALF = Fraction(1, 2)
TINY = Fraction(1, LONG)
KEEPS = [0, Fraction(0), HALF, Fraction(2, 7), Fraction(99, 100)]
SETTLED = [fraction_list(text) for text in (
    "1 0", "1 1", "1 0 0 0", "1 1 1", "1 1/2 1/4", "1 1/2 1/2", "1 1/2 1/4 1/8 1/16", "1 1/2 1/2 1/2 1/2",
    "1 3/4 11/16 43/64", "1 3/4 11/16 43/64 171/256",
)]


def begun():
    """Lists of 1 to 13 readings, open ones and settled ones."""
    found = list(SETTLED)
    for number, readings in enumerate(lists_of_readings()):
        found.append(readings[:1 + number % 13])
        found.append(readings[:1 + (5 * number + 3) % 13])
    return found


class LaterCase(PlainCase):
    def check_wrong_readings(self, function, *arguments):
        """The function raises the errors of explained for its first argument."""
        for readings in ([], [0], [HALF, HALF], [2, 5]):
            self.check_error(BadReadings, {}, function, readings, *arguments)
        for readings, tick in ([1, 2], 1), ([1, HALF, Fraction(1, 5), 9], 2), ([1, 1, 1, HALF], 3):
            with self.assertRaises(Barred) as caught:
                function(readings, *arguments)
            self.assertEqual(caught.exception.tick, tick)
            self.assertIs(caught.exception.weights.bars(readings[:tick + 1]), True)

    def check_pair(self, found, least, greatest):
        self.assertIs(found.__class__, tuple)
        self.check_numbers(list(found), [least, greatest])


class Later(LaterCase):
    def test_ticks_that_have_been_read(self):
        for readings in begun():
            for tick, reading in enumerate(readings):
                self.check_pair(later(readings, tick), reading, reading)
        self.check_pair(later([1], 0), 1, 1)
        self.check_pair(later(tick=1, readings=[1, 0, 0]), 0, 0)

    def test_later_ticks(self):
        for readings in begun():
            shares = shares_of(readings)
            for tick in (len(readings), len(readings) + 1, len(readings) + 4):
                self.check_pair(later(readings, tick), *range_behind(shares, tick))

    def test_the_tick_40(self):
        for readings in begun()[::3]:
            self.check_pair(later(readings, 40), *range_behind(shares_of(readings), 40))

    def test_settled_readings_have_one_later_reading(self):
        for readings in SETTLED:
            for tick in range(12):
                least, greatest = later(readings, tick)
                self.assertEqual(least, greatest)

    def test_the_readings_of_webs_lie_between(self):
        for sample in WEBS:
            readings = web_of(sample).readings(10)
            for many in (1, 2, 3, 5):
                for tick in range(11):
                    least, greatest = later(readings[:many], tick)
                    self.assertLessEqual(least, readings[tick])
                    self.assertLessEqual(readings[tick], greatest)

    def test_errors(self):
        for tick in (0, 3, -1):
            self.check_wrong_readings(later, tick)
        for readings in begun():
            self.check_error(BadTick, {"tick": -1}, later, readings, -1)
        self.check_error(BadTick, {"tick": -7}, later, [1], tick=-7)


class Reached(LaterCase):
    def check_reached(self, readings, tick, value):
        line = reached(readings, tick, value)
        self.assertIs(line.__class__, Line)
        self.check_numbers(line.readings(len(readings) - 1), readings)
        self.check_number(line(tick), value)

    def test_values_from_the_least_to_the_greatest(self):
        for readings in begun():
            for tick in (len(readings), len(readings) + 1, len(readings) + 3):
                least, greatest = [ours(number) for number in range_behind(shares_of(readings), tick)]
                for share in (0, 1, HALF, Fraction(1, 7)):
                    self.check_reached(readings, tick, least + (greatest - least) * share)

    def test_ticks_that_have_been_read(self):
        for readings in begun():
            for tick, reading in enumerate(readings):
                self.check_reached(readings, tick, reading)

    def test_the_tick_40(self):
        for readings in begun()[::5]:
            least, greatest = later(readings, 40)
            self.check_reached(readings, 40, least + (greatest - least) * Fraction(1, 3))

    def test_integers(self):
        self.check_reached([1], 3, 0)
        self.check_reached([1], 3, 1)
        self.check_reached([1], 0, 1)
        self.check_reached([1, 1], 5, 1)
        self.assertEqual(reached(value=0, tick=1, readings=[1])(1), 0)

    def test_values_out_of_range(self):
        for readings in begun():
            for tick in (0, len(readings) - 1, len(readings), len(readings) + 2):
                least, greatest = later(readings, tick)
                values = {"least": least, "greatest": greatest}
                for value in (least - TINY, greatest + TINY, least - 1, greatest + 1, -1, 2):
                    self.check_error(OutOfRange, values, reached, readings, tick, value)

    def test_errors(self):
        for tick in (0, 3, -1):
            for value in (0, HALF, 5):
                self.check_wrong_readings(reached, tick, value)
        for value in (0, 1, HALF, 5, -1):
            self.check_error(BadTick, {"tick": -1}, reached, [1, HALF], -1, value)


class WorthsAndLimits(LaterCase):
    def test_worth_between(self):
        for readings in begun():
            for keep in KEEPS:
                low, high = explained(readings, end=0), explained(readings, end=1)
                self.check_pair(worth_between(readings, keep), low.worth(keep), high.worth(keep))
        self.check_pair(worth_between(keep=HALF, readings=[1]), 1, 2)
        self.check_pair(worth_between([1, 0], HALF), 1, 1)

    def test_worths_of_webs_lie_between(self):
        keep = Fraction(1, 4)
        for shares in LINES:
            line = Line(shares)
            for many in (0, 1, 3):
                least, greatest = worth_between(line.readings(many), keep)
                self.assertLessEqual(least, line.worth(keep))
                self.assertLessEqual(line.worth(keep), greatest)
                least, greatest = limit_between(line.readings(many))
                self.assertLessEqual(least, line.limit())
                self.assertLessEqual(line.limit(), greatest)

    def test_wrong_numbers_ahead_of_wrong_readings(self):
        for keep in (1, Fraction(1), -1, 2, -TINY, 1 + TINY):
            for readings in ([], [2], [1, 2], [1], [1, HALF], [1, HALF, Fraction(1, 4)], [1, 1], [1, HALF, 0]):
                self.check_error(BadShare, {"share": keep}, worth_between, readings, keep)
        for keep in KEEPS:
            self.check_wrong_readings(worth_between, keep)

    def test_limit_between(self):
        for readings in begun():
            low, high = explained(readings, end=0), explained(readings, end=1)
            self.check_pair(limit_between(readings), low.limit(), high.limit())
        self.check_pair(limit_between([1]), 0, 1)
        self.check_pair(limit_between(readings=[1, HALF, HALF]), HALF, HALF)
        self.check_wrong_readings(limit_between)


class Fewest(LaterCase):
    def test_open_and_settled_readings(self):
        for text, expected in [
            ("1", (1, 0)), ("1 0", (1, 0)), ("1 1", (1, 1)), ("1 1 1 1", (1, 1)), ("1 1/2", (1, 1)),
            ("1 1/2 1/4 1/8", (1, 1)), ("1 1/2 1/2", (2, 1)), ("1 1/2 3/8", (2, 1)), ("1 3/4 11/16", (2, 1)),
            ("1 3/4 11/16 43/64", (2, 2)), ("1 3/4 11/16 85/128", (2, 2)),
        ]:
            found = fewest(fraction_list(text))
            self.assertIs(found.__class__, tuple)
            self.assertEqual(found, expected, text)
        self.assertEqual(fewest(readings=[1]), (1, 0))

    def test_against_the_last_node(self):
        for readings in begun():
            shares = shares_of(readings)
            last = len(shares)
            if shares and shares[-1] == 0:
                last = last - 1
            self.assertEqual(fewest(readings), (last // 2 + 1, (last + 1) // 2))

    def test_no_web_has_fewer(self):
        for sample in WEBS:
            web = web_of(sample)
            for ticks in range(11):
                rooms, passages = fewest(web.readings(ticks))
                self.assertLessEqual(rooms, web.rooms)
                self.assertLessEqual(passages, web.passages)

    def test_errors(self):
        self.check_wrong_readings(fewest)


class Arguments(LaterCase):
    def test_the_lists_stay_as_they_are(self):
        readings = [1, HALF, Fraction(3, 8)]
        later(readings, 5)
        reached(readings, 3, Fraction(5, 16))
        worth_between(readings, HALF)
        limit_between(readings)
        fewest(readings)
        self.assertEqual(all_theirs(readings), all_theirs([1, HALF, Fraction(3, 8)]))
        self.assertIs(readings[0].__class__, int)


class Examples(LaterCase):
    def test_examples_of_the_interface(self):
        least, greatest = later([1, Fraction(3, 4)], 3)
        self.assertEqual([str(least), str(greatest), fewest([1, Fraction(3, 4)])], ["27/64", "3/4", (1, 1)])
        line = reached([1, HALF], 2, Fraction(3, 8))
        self.assertEqual([str(line(1)), str(line(2))], ["1/2", "3/8"])
        pair = worth_between([1, HALF], HALF) + limit_between([1, HALF])
        self.assertEqual([str(number) for number in pair], ["4/3", "3/2", "0", "1/2"])


if __name__ == "__main__":
    unittest.main()
