"""Points 23 to 26, and of points 3 to 5 what concerns Reader and explained."""

import unittest

from tests.plain import (
    LINES, LONG, PlainCase, all_theirs, fraction_list, lists_of_readings, ours, range_behind, shares_of, theirs, total,
    walk,
)
from tracerline.errors import BadReadings, BadShare, Barred, FullReader, NothingLeft
from tracerline.exact import Fraction
from tracerline.lines import Line
from tracerline.reader import MOST_READINGS, Reader, explained
from tracerline.weights import Weights

HALF = Fraction(1, 2)
TINY = Fraction(1, LONG)


def taken(readings):
    """A reader that has taken the readings; the first of them is 1."""
    reader = Reader(most=40)
    for reading in readings[1:]:
        reader.take(reading)
    return reader


def state(reader):
    """All that a reader tells."""
    return (
        reader.last_tick, reader.low, reader.high, reader.gap, reader.settled, reader.shares(), reader.readings(),
    )


# Readings that are settled at 0 and at 1, at once and later, with further readings behind.
SETTLED = [
    ("1 0", 0), ("1 0 0", 0), ("1 0 0 0 0", 0),
    ("1 1", 1), ("1 1 1", 1), ("1 1 1 1 1", 1),
    ("1 1/2 1/4", 0), ("1 1/2 1/4 1/8 1/16", 0),
    ("1 1/2 1/2", 1), ("1 1/2 1/2 1/2 1/2 1/2", 1),
    ("1 3/4 11/16 43/64", 1), ("1 3/4 11/16 43/64 171/256", 1),
] + [(" ".join(str(r) for r in walk(shares, len(shares) + more)), theirs(shares[-1]))
     for shares in LINES[2:14] for more in (0, 1, 2, 5)]


class ReaderCase(PlainCase):
    def check_reader(self, reader, readings):
        """The reader tells what belongs to the readings that it has taken."""
        tick = len(readings) - 1
        shares = shares_of(readings)
        low, high = range_behind(shares, tick + 1)
        self.assertEqual(reader.last_tick, tick)
        self.assertIs(reader.last_tick.__class__, int)
        self.check_number(reader.low, low)
        self.check_number(reader.high, high)
        self.check_number(reader.gap, high - low)
        self.assertIs(reader.settled, bool(shares) and shares[-1] in (0, 1))
        self.check_numbers(reader.shares(), shares)
        self.check_numbers(reader.readings(), readings)

    def check_barred(self, function, value, readings, tick):
        """The call with the value raises Barred with this tick, and its weights bar the readings with the value."""
        with self.assertRaises(Barred) as caught:
            function(value)
        error = caught.exception
        self.assertEqual(list(vars(error)), ["tick", "weights"])
        self.assertEqual(error.tick, tick)
        self.assertIs(error.weights.__class__, Weights)
        together = readings + [value]
        self.assertIs(error.weights.bars(together), True)
        self.assertLess(error.weights.degree, len(together))
        self.assertLess(total(error.weights.polynomial().coefficients(), together), 0)


class OneByOne(ReaderCase):
    def test_the_first_state(self):
        reader = Reader()
        self.check_reader(reader, [1])
        self.check_number(reader.low, 0)
        self.check_number(reader.gap, 1)

    def test_readings_of_webs_and_lines(self):
        for readings in lists_of_readings():
            reader = Reader()
            shares = shares_of(readings)
            for tick in range(1, 13):
                found = reader.take(readings[tick])
                if tick <= len(shares):
                    self.check_number(found, shares[tick - 1])
                else:
                    self.assertIsNone(found)
                self.check_reader(reader, readings[:tick + 1])

    def test_the_readings_of_a_line_give_its_shares(self):
        for shares in LINES:
            readings = [ours(reading) for reading in walk(shares, len(shares) + 2)]
            self.check_numbers(taken(readings).shares(), shares)

    def test_integers_are_taken(self):
        reader = Reader()
        self.check_number(reader.take(reading=1), 1)
        self.assertIsNone(reader.take(1))
        self.check_numbers(reader.readings(), [1, 1, 1])
        self.check_number(Reader().take(0), 0)

    def test_a_reading_at_an_end_settles(self):
        for readings in (["1"], ["1", "1/2"], ["1", "3/4", "11/16"], ["1", "1/3", "1/5", "1/7"]):
            readings = fraction_list(" ".join(readings))
            for end in (0, 1):
                reader = taken(readings)
                value = reader.low if end == 0 else reader.high
                self.check_number(reader.take(value), end)
                expected = readings + [value]
                self.check_reader(reader, expected)
                self.assertIs(reader.settled, True)
                for _ in range(5):
                    following = reader.low
                    for wrong in (following + TINY, following - TINY, following + 1, -1):
                        self.check_barred(reader.take, wrong, expected, len(expected))
                    self.assertIsNone(reader.take(following))
                    expected.append(following)
                    self.check_reader(reader, expected)

    def test_values_in_the_range(self):
        for text in ("1", "1 1/2", "1 1/2 3/8", "1 3/4 11/16"):
            reader = taken(fraction_list(text))
            low, high = reader.low, reader.high
            for value in (low, high, low + reader.gap * HALF, low + TINY, high - TINY):
                self.assertIs(value in reader, True)
            for value in (low - TINY, high + TINY, low - 1, high + 1, -1, 2, -5):
                self.assertIs(value in reader, False)
        self.assertIs(0 in Reader(), True)
        self.assertIs(1 in Reader(), True)
        self.assertIs(0 in taken([1, HALF]), False)
        self.assertIs(1 in taken([1, HALF]), False)

    def test_values_in_a_settled_range(self):
        reader = taken(fraction_list("1 1/2 1/4"))
        self.assertIs(Fraction(1, 8) in reader, True)
        self.assertIs(Fraction(1, 8) + TINY in reader, False)
        self.assertIs(Fraction(1, 8) - TINY in reader, False)
        self.assertIs(1 in taken([1, 1]), True)
        self.assertIs(0 in taken([1, 1]), False)
        self.assertIs(0 in taken([1, 0, 0]), True)

    def test_lists_that_were_returned_may_change(self):
        reader = taken(fraction_list("1 1/2 3/8"))
        before = state(reader)
        reader.shares().append(1)
        reader.shares()[0] = 5
        reader.readings().clear()
        reader.readings()[0] = 5
        self.assertEqual(state(reader), before)
        reader.take(reader.low)
        self.check_numbers(reader.shares(), fraction_list("1/2 1/2 0"))


class Full(ReaderCase):
    def test_most_readings(self):
        self.assertEqual(MOST_READINGS, 12)
        self.assertIs(MOST_READINGS.__class__, int)
        reader = Reader()
        for _ in range(12):
            reader.take(reader.low + reader.gap * HALF)
        self.check_error(FullReader, {"most": 12}, reader.take, reader.low)
        self.assertEqual(reader.last_tick, 12)

    def test_another_most(self):
        for most in (1, 2, 5, 15):
            reader = Reader(most=most)
            for _ in range(most):
                reader.take(reader.low + reader.gap * Fraction(1, 3))
            before = state(reader)
            for value in (reader.low, reader.high, reader.low - 1, reader.high + 1, -1, 2):
                self.check_error(FullReader, {"most": most}, reader.take, value)
            self.assertEqual(state(reader), before)
            self.assertIs(reader.low in reader, True)
            self.assertIs(reader.high in reader, True)
            self.assertIs(reader.low - TINY in reader, False)
            self.assertIs(reader.high + TINY in reader, False)
            reader.take_back()
            reader.take(reader.high)

    def test_settled_readings_fill_it_too(self):
        reader = Reader(most=3)
        for _ in range(3):
            reader.take(1)
        self.check_error(FullReader, {"most": 3}, reader.take, 1)
        self.assertIs(1 in reader, True)

    def test_most_is_passed_by_name_only(self):
        with self.assertRaises(TypeError):
            Reader(3)


class OutOfTheRange(ReaderCase):
    def test_open_readings(self):
        for readings in lists_of_readings():
            for many in range(1, len(shares_of(readings)) + 1):
                begun = readings[:many]
                reader = taken(begun)
                before = state(reader)
                for value in (reader.low - TINY, reader.low - 1, reader.high + TINY, reader.high + 1, -1, 2):
                    self.check_barred(reader.take, value, begun, many)
                self.assertEqual(state(reader), before)

    def test_settled_readings(self):
        for text, end in SETTLED:
            readings = fraction_list(text)
            reader = taken(readings)
            self.assertIs(reader.settled, True)
            self.assertEqual(reader.shares()[-1], ours(end))
            before = state(reader)
            for value in (reader.low - TINY, reader.low - 1, reader.low + TINY, reader.low + 1, -1, 2):
                self.check_barred(reader.take, value, readings, len(readings))
            self.assertEqual(state(reader), before)
            self.assertIsNone(reader.take(reader.low))


class TakingBack(ReaderCase):
    def test_back_to_the_first_reading(self):
        for readings in lists_of_readings():
            reader = taken(readings)
            for tick in range(12, 0, -1):
                self.check_reader(reader, readings[:tick + 1])
                self.check_number(reader.take_back(), readings[tick])
            self.check_reader(reader, [1])
            self.check_error(NothingLeft, {}, reader.take_back)
            self.check_reader(reader, [1])

    def test_other_readings_after_it(self):
        reader = taken(fraction_list("1 1/2 1/4 1/8"))
        self.check_number(reader.take_back(), Fraction(1, 8))
        self.assertIs(reader.settled, True)
        self.check_number(reader.take_back(), Fraction(1, 4))
        self.assertIs(reader.settled, False)
        self.check_number(reader.take(Fraction(3, 8)), HALF)
        self.check_reader(reader, fraction_list("1 1/2 3/8"))
        reader.take(reader.low + reader.gap * Fraction(1, 5))
        self.assertEqual(reader.shares()[2], Fraction(1, 5))

    def test_a_new_reader_has_nothing_left(self):
        self.check_error(NothingLeft, {}, Reader().take_back)


class AsLine(ReaderCase):
    def test_open_readings(self):
        for readings in lists_of_readings():
            shares = shares_of(readings)
            for many in range(1, len(shares) + 1):
                reader = taken(readings[:many])
                self.assertEqual(reader.as_line(), Line([ours(share) for share in shares[:many - 1]] + [0]))
                for end in (0, 1, Fraction(0), Fraction(1)):
                    line = reader.as_line(end=end)
                    self.assertIs(line.__class__, Line)
                    self.check_numbers(line.shares(), shares[:many - 1] + [theirs(end)])

    def test_settled_readings(self):
        for text, end in SETTLED:
            reader = taken(fraction_list(text))
            for other in (0, 1):
                self.assertEqual(reader.as_line(end=other), Line(reader.shares()))
            self.assertEqual(reader.as_line().end, end)

    def test_wrong_ends(self):
        for text in ("1", "1 1/2", "1 1/2 1/4", "1 1 1"):
            reader = taken(fraction_list(text))
            before = state(reader)
            for end in (-1, 2, HALF, Fraction(-1), Fraction(LONG + 1, LONG)):
                self.check_error(BadShare, {"share": end}, reader.as_line, end=end)
            self.assertEqual(state(reader), before)


class Explained(ReaderCase):
    def test_webs_and_lines(self):
        for readings in lists_of_readings():
            shares = shares_of(readings)
            for many in range(1, 14):
                for end in (0, 1):
                    line = explained(readings[:many], end=end)
                    expected = shares[:many - 1]
                    if not expected or expected[-1] not in (0, 1):
                        expected = expected + [end]
                    self.check_numbers(line.shares(), expected)
                    self.check_numbers(line.readings(many - 1), readings[:many])
        self.check_numbers(explained([1, HALF]).shares(), [HALF, 0])
        self.check_numbers(explained(readings=[1], end=1).shares(), [1])
        self.check_numbers(explained([Fraction(1), 0, 0]).shares(), [0])

    def test_more_than_the_most_readings(self):
        shares = fraction_list("1/2 1/3 1/4 1/2 1/3 1/4 1/2 1/3 1/4 1/2 1/3 1/4 2/5 3/5 1/2 1")
        readings = [ours(reading) for reading in walk(shares, 20)]
        self.check_numbers(explained(readings).shares(), shares)
        self.check_numbers(explained(readings[:15]).shares(), shares[:14] + [Fraction(0)])

    def test_the_list_stays_as_it_is(self):
        readings = [1, HALF, Fraction(3, 8)]
        explained(readings)
        self.assertEqual(all_theirs(readings), all_theirs([1, HALF, Fraction(3, 8)]))
        self.assertIs(readings[0].__class__, int)

    def test_wrong_readings(self):
        for readings in ([], [0], [2, 1], [HALF, HALF], [Fraction(LONG + 1, LONG)], [0, -1], [-1]):
            self.check_error(BadReadings, {}, explained, readings)
            for end in (0, 1, 2, HALF):
                self.check_error(BadReadings, {}, explained, readings, end=end)

    def test_wrong_ends(self):
        for end in (-1, 2, HALF, Fraction(LONG + 1, LONG)):
            for readings in ([1], [1, HALF], [1, 1, 1], [1, 2], [1, HALF, Fraction(1, 5)], [1, 0, HALF]):
                self.check_error(BadShare, {"share": end}, explained, readings, end=end)

    def test_the_first_reading_that_cannot_be(self):
        for readings, tick in [
            ([1, 2], 1), ([1, -1, 5, 7], 1), ([1, HALF, Fraction(1, 5)], 2), ([1, HALF, Fraction(3, 4), -1], 2),
            ([1, HALF, HALF, HALF, Fraction(1, 3), HALF], 4), ([1, 0, 0, TINY, 9], 3), ([1, 1, 1, 1 - TINY], 3),
            ([1, HALF, Fraction(3, 8), Fraction(1, 2)], 3), ([1, HALF, Fraction(3, 8), Fraction(1, 4), 0], 3),
        ]:
            for end in (0, 1):
                self.check_barred(lambda value: explained(readings, end=end), readings[tick], readings[:tick], tick)

    def test_end_is_passed_by_name_only(self):
        with self.assertRaises(TypeError):
            explained([1], 0)
        with self.assertRaises(TypeError):
            Reader().as_line(0)


class Examples(ReaderCase):
    def test_examples_of_the_interface(self):
        reader = Reader()
        found = [str(reader.take(HALF)), str(reader.take(Fraction(3, 8)))]
        found = found + [str(reader.low), str(reader.high), str(reader.gap), reader.settled]
        self.assertEqual(found, ["1/2", "1/2", "9/32", "11/32", "1/16", False])
        line = explained([1, Fraction(3, 4), Fraction(11, 16), Fraction(43, 64), Fraction(171, 256)])
        self.assertEqual([str(share) for share in line.shares()], ["3/4", "2/3", "1"])
        with self.assertRaises(Barred) as caught:
            explained([1, HALF, Fraction(1, 5)])
        self.assertEqual(caught.exception.tick, 2)


if __name__ == "__main__":
    unittest.main()
