"""Points 43 to 46: one-way webs and first returns."""

import fractions
import unittest

from tests.plain import LINES, LONG, WEBS, PlainCase, all_theirs, fraction_list, lists_of_readings, ours, play, web_of
from tests.plain import theirs
from tracerline.errors import BadReadings, BadTick, BadWeb, NoWeb
from tracerline.exact import Fraction
from tracerline.oneway import OneWay, delay_row, first_returns, next_one_way, one_way_of, returned, verdict

HALF, THIRD = Fraction(1, 2), Fraction(1, 3)
TINY = Fraction(1, LONG)
TABLES = [
    [[0]], [[1]], [[HALF]], [[0, 1], [1, 0]], [[HALF, HALF], [THIRD, Fraction(2, 3)]],
    [[0, HALF, HALF], [1, 0, 0], [THIRD, THIRD, 0]], [[Fraction(0), Fraction(1)], [0, 0]],
    [[1 - TINY, TINY], [Fraction(3, 7), Fraction(2, 7)]],
    [[Fraction(1 + (row * column) % 3, 30) for column in range(9)] for row in range(9)],
]


def push(table, ticks):
    """The amounts in room 0 of a one-way web after 0 to ticks ticks."""
    rows = [all_theirs(row) for row in table]
    amounts = [fractions.Fraction(int(room == 0)) for room in range(len(rows))]
    readings = [amounts[0]]
    for _ in range(ticks):
        amounts = [sum(amount * row[room] for amount, row in zip(amounts, rows)) for room in range(len(rows))]
        readings.append(amounts[0])
    return readings


def returns_by_walls(table, ticks):
    """The first returns of a one-way web: what comes back to room 0 if all that comes back is taken out."""
    rows = [all_theirs(row) for row in table]
    amounts = [fractions.Fraction(int(room == 0)) for room in range(len(rows))]
    found = [fractions.Fraction(0)]
    for _ in range(ticks):
        amounts = [sum(amount * row[room] for amount, row in zip(amounts, rows)) for room in range(len(rows))]
        found.append(amounts[0])
        amounts[0] = fractions.Fraction(0)
    return found


class OneWayWebs(PlainCase):
    def test_readings(self):
        for table in TABLES:
            web = OneWay(table)
            self.assertEqual(web.rooms, len(table))
            self.check_numbers(web.readings(12), push(table, 12))
            self.check_numbers(web.readings(ticks=0), [1])

    def test_forty_ticks(self):
        table = TABLES[5]
        self.check_numbers(OneWay(table).readings(40), push(table, 40))

    def test_table(self):
        for table in TABLES:
            found = OneWay(table=table).table()
            self.assertIs(found.__class__, list)
            self.assertEqual(len(found), len(table))
            for row, expected in zip(found, table):
                self.check_numbers(row, [theirs(part) for part in expected])

    def test_tables_are_copied(self):
        table = [[HALF, HALF], [1, 0]]
        web = OneWay(table)
        table[0][0] = 7
        table[1].append(3)
        table.append([1, 2, 3])
        found = web.table()
        found[0][1] = Fraction(9)
        found.pop()
        self.assertEqual(web.table(), [[HALF, HALF], [1, 0]])
        self.check_numbers(web.readings(2), [1, fractions.Fraction(1, 2), fractions.Fraction(3, 4)])
        self.assertEqual(web.rooms, 2)

    def test_the_table_is_new_on_each_call(self):
        web = OneWay([[0, 1], [1, 0]])
        self.assertIsNot(web.table(), web.table())
        self.assertIsNot(web.table()[0], web.table()[0])

    def test_each_reason(self):
        for table, reason in (
            ([], "rooms"),
            ([[]], "uneven"), ([[1, 0]], "uneven"), ([[1, 0], [1]], "uneven"), ([[1], [1, 0]], "uneven"),
            ([[1, 0], [0, 1], [0, 0]], "uneven"),
            ([[-1]], "negative"), ([[1, 0], [1, -TINY]], "negative"), ([[Fraction(3, 2), -HALF], [0, 0]], "negative"),
            ([[2]], "sum"), ([[1 + TINY]], "sum"), ([[1, 0], [HALF, HALF + TINY]], "sum"), ([[1, TINY], [0, 0]], "sum"),
        ):
            self.check_error(BadWeb, {"reason": reason}, OneWay, table)

    def test_the_reason_that_is_checked_first(self):
        for table, reason in (
            ([[-1, 5]], "uneven"), ([[2, 2], [0]], "uneven"), ([[2, 0], [0, -1]], "negative"),
            ([[5, -1], [0, 0]], "negative"), ([[3, 0], [-1, 0]], "negative"),
        ):
            self.check_error(BadWeb, {"reason": reason}, OneWay, table)

    def test_sums_of_exactly_1(self):
        for table in ([[1]], [[Fraction(1)]], [[1 - TINY, TINY], [THIRD, Fraction(2, 3)]]):
            self.assertEqual(OneWay(table).rooms, len(table))

    def test_negative_ticks(self):
        for ticks in (-1, -7):
            self.check_error(BadTick, {"tick": ticks}, OneWay([[1]]).readings, ticks)


class OneWaysOfWebs(PlainCase):
    def test_tables_and_readings(self):
        for sample in WEBS:
            web = web_of(sample)
            found = one_way_of(web=web)
            self.assertIs(found.__class__, OneWay)
            self.assertEqual(found.rooms, len(sample[0]))
            for room, row in enumerate(found.table()):
                self.check_numbers(row, play(*sample, start=room, ticks=1)[1][0])
                for other, part in enumerate(row):
                    self.assertEqual(part, web.moved(room, other, 1))
            self.check_numbers(found.readings(12), [amounts[0] for amounts, lost in play(*sample, ticks=12)])


class FirstReturns(PlainCase):
    def test_of_one_way_webs(self):
        for table in TABLES:
            returns = returns_by_walls(table, 12)
            readings = OneWay(table).readings(12)
            self.check_numbers(first_returns(readings), returns)
            self.check_numbers(returned([ours(part) for part in returns]), push(table, 12))

    def test_there_and_back_for_readings_of_webs_and_lines(self):
        for readings in lists_of_readings():
            returns = first_returns(readings=readings)
            self.assertEqual(returned(returns=returns), readings)
            self.assertTrue(all(part >= 0 for part in all_theirs(returns)))
            self.assertLessEqual(sum(all_theirs(returns)), 1)

    def test_any_numbers(self):
        for numbers in ([1], [1, 5], [1, -3, Fraction(7, 2), 0, 11], [Fraction(1), 0, 0, -1], [1, LONG, TINY, -LONG]):
            returns = first_returns(numbers)
            met = all_theirs(returns)
            known = all_theirs(numbers)
            self.assertEqual(met[0], 0)
            for tick in range(1, len(known)):
                self.assertEqual(known[tick], sum(met[j] * known[tick - j] for j in range(1, tick + 1)))
            self.check_numbers(returned(returns), known)
        for numbers in ([0], [0, 5], [Fraction(0), -2, THIRD, 0, 9], [0, 0, 0, 1], [0, LONG, TINY, -LONG]):
            self.check_numbers(first_returns(returned(numbers)), all_theirs(numbers))

    def test_the_numbers_that_were_passed_in(self):
        readings, returns = [1, 1, 0], [0, 2, 3]
        first_returns(readings).append(1)
        returned(returns).append(1)
        self.assertEqual((readings, returns), ([1, 1, 0], [0, 2, 3]))

    def test_one_entry(self):
        self.check_numbers(first_returns([1]), [0])
        self.check_numbers(returned([0]), [1])

    def test_errors(self):
        for readings in ([], [0], [2, 1], [HALF, 1], [-1], [Fraction(101, 100)]):
            self.check_error(BadReadings, {}, first_returns, readings)
        for returns in ([], [1], [1, 0], [HALF], [-1, 0], [TINY]):
            self.check_error(BadReadings, {}, returned, returns)


class DelayRows(PlainCase):
    def test_tables(self):
        table = delay_row([0, HALF, 0, THIRD]).table()
        self.assertEqual(table, [[HALF, 0, THIRD], [1, 0, 0], [0, 1, 0]])
        self.assertEqual(delay_row([0, HALF]).table(), [[HALF]])
        self.assertEqual(delay_row([0]).table(), [[0]])
        self.assertEqual(delay_row([Fraction(0), 0]).table(), [[0]])

    def test_first_returns(self):
        for texts in ("0", "0 1", "0 0 1", "0 1/2 1/2", "0 1/3 0 1/6 1/4", "0 1/9 1/9 1/9 1/9 1/9 1/9 1/9 1/9 1/9",
                      "0 1/13 1/13 1/13 1/13 1/13 1/13 1/13 1/13 1/13 1/13 1/13 1/13"):
            returns = fraction_list(texts)
            web = delay_row(returns=returns)
            self.assertEqual(web.rooms, max(1, len(returns) - 1))
            self.check_numbers(first_returns(web.readings(16)), (all_theirs(returns) + [0] * 17)[:17])

    def test_sum_of_exactly_1(self):
        self.assertEqual(delay_row([0, HALF, 1 - HALF - TINY, TINY]).rooms, 3)

    def test_errors(self):
        for returns in ([], [1], [1, -1], [HALF, 3], [-TINY]):
            self.check_error(BadReadings, {}, delay_row, returns)
        for returns, tick in (
            ([0, -1], 1), ([0, 2], 1), ([0, 1 + TINY], 1), ([0, 0, -TINY], 2), ([0, HALF, HALF, TINY], 3),
            ([0, HALF, -HALF, 7], 2), ([0, HALF, 1, -1], 2), ([0, 1, 0, 0, TINY, -1], 4), ([0, 2, -1], 1),
            ([0, HALF, 0, Fraction(2, 3)], 3),
        ):
            self.check_error(NoWeb, {"tick": tick}, delay_row, returns)

    def test_examples(self):
        returns = first_returns([1, 0, HALF, Fraction(1, 4)])
        self.assertEqual([str(part) for part in returns] + [str(r) for r in delay_row(returns).readings(5)],
                         ["0", "0", "1/2", "1/4", "1", "0", "1/2", "1/4", "1/4", "1/4"])
        self.check_error(NoWeb, {"tick": 3}, delay_row, [0, HALF, 0, Fraction(2, 3)])


class Verdicts(PlainCase):
    def test_at_the_edges_of_the_ranges(self):
        quarter, three = Fraction(1, 4), Fraction(3, 4)
        for reading, expected in (
            (quarter, "two-way"), (quarter - TINY, "none"), (Fraction(3, 8), "two-way"), (HALF, "two-way"),
            (HALF + TINY, "one-way"), (three, "one-way"), (three + TINY, "none"), (Fraction(1, 8), "none"),
        ):
            self.assertEqual(verdict([1, HALF, reading]), expected)

    def test_settled_readings(self):
        for readings, expected in (
            ([1], "two-way"), ([1, 0], "two-way"), ([1, 1], "two-way"), ([1, 2], "none"), ([1, -TINY], "none"),
            ([1, 0, 0], "two-way"), ([1, 0, TINY], "one-way"), ([1, 0, 1], "one-way"), ([1, 0, 1 + TINY], "none"),
            ([1, 0, -TINY], "none"), ([1, 1, 1], "two-way"), ([1, 1, 1 - TINY], "none"), ([1, 1, 1 + TINY], "none"),
            ([1, HALF, HALF, HALF], "two-way"), ([1, HALF, HALF, HALF + TINY], "one-way"),
            ([1, HALF, HALF, HALF - TINY], "one-way"), ([1, HALF, Fraction(1, 4), Fraction(1, 8)], "two-way"),
            ([1, HALF, Fraction(1, 4), Fraction(1, 8) - TINY], "none"),
        ):
            self.assertEqual(verdict(readings=readings), expected, readings)

    def test_webs_and_one_way_webs(self):
        for readings in lists_of_readings():
            self.assertEqual(verdict(readings), "two-way")
        for table in TABLES:
            self.assertIn(verdict(OneWay(table).readings(8)), ("two-way", "one-way"))

    def test_later_readings_decide(self):
        readings = OneWay([[0, 1], [HALF, HALF]]).readings(6)
        self.assertEqual(verdict(readings), "one-way")
        self.assertEqual(verdict(readings + [Fraction(2)]), "none")

    def test_example(self):
        self.assertEqual([verdict([1, HALF, reading]) for reading in (Fraction(3, 8), Fraction(3, 4), Fraction(1, 8))],
                         ["two-way", "one-way", "none"])

    def test_errors(self):
        for readings in ([], [0], [HALF, HALF], [2], [-1, 0]):
            self.check_error(BadReadings, {}, verdict, readings)


class NextOneWay(PlainCase):
    def samples(self):
        found = [readings[:end] for readings in lists_of_readings() for end in (1, 2, 4, 9)]
        return found + [OneWay(table).readings(ticks) for table in TABLES for ticks in (0, 1, 3, 6)]

    def test_both_ends_and_between(self):
        for readings in self.samples():
            least, greatest = next_one_way(readings=readings)
            self.check_number(least, theirs(least))
            returns = first_returns(readings)
            left = 1 - sum(all_theirs(returns))
            self.assertEqual(theirs(greatest) - theirs(least), left)
            for share in (0, fractions.Fraction(1, 3), 1):
                row = delay_row(returns + [ours(share * left)])
                shown = row.readings(len(readings))
                self.assertEqual(shown[:-1], readings)
                self.assertEqual(theirs(shown[-1]), theirs(least) + share * left)

    def test_beyond_both_ends(self):
        for readings in self.samples():
            least, greatest = next_one_way(readings)
            for reading in (least - TINY, greatest + TINY):
                self.check_error(NoWeb, {"tick": len(readings)}, delay_row, first_returns(readings + [reading]))
                self.check_error(NoWeb, {"tick": len(readings)}, next_one_way, readings + [reading])

    def test_values(self):
        for readings, expected in (
            ([1], (0, 1)), ([1, HALF], (fractions.Fraction(1, 4), fractions.Fraction(3, 4))), ([1, 0], (0, 1)),
            ([1, 1], (1, 1)), ([1, 0, 1], (0, 0)), ([1, 0, HALF], (0, fractions.Fraction(1, 2))),
        ):
            found = next_one_way(readings)
            self.assertIs(found.__class__, tuple)
            self.check_numbers(list(found), list(expected))

    def test_range_of_webs_lies_within(self):
        for shares in LINES[2:8]:
            readings = [ours(r) for r in push_line(shares, 6)]
            least, greatest = next_one_way(readings[:-1])
            self.assertTrue(least <= readings[-1] <= greatest)

    def test_errors(self):
        for readings in ([], [0], [HALF, HALF], [2], [-1, 0], [0, 5]):
            self.check_error(BadReadings, {}, next_one_way, readings)
        for readings, tick in (([1, 2], 1), ([1, -TINY], 1), ([1, HALF, Fraction(1, 8)], 2), ([1, HALF, 1, 9], 2),
                               ([1, 0, 0, -1, 2], 3), ([1, 1, 1, TINY + 1], 3)):
            self.check_error(NoWeb, {"tick": tick}, next_one_way, readings)


def push_line(shares, ticks):
    """The readings of a line, by the parts that go from room to room in a tick."""
    down = [fractions.Fraction(0)] + all_theirs(shares)
    last = len(shares) if shares[-1] == 1 else len(shares) - 1
    up = [1 - part for part in down]
    rooms = last // 2 + 1
    table = [[fractions.Fraction(0)] * rooms for _ in range(rooms)]
    for room in range(rooms):
        node = 2 * room
        if node > 0:
            table[room][room - 1] += down[node] * down[node - 1]
            table[room][room] += down[node] * up[node - 1]
        if node < last:
            table[room][room] += up[node] * down[node + 1]
            if node + 2 <= last:
                table[room][room + 1] += up[node] * up[node + 1]
    return push(table, ticks)


if __name__ == "__main__":
    unittest.main()
