"""Points 16 to 19, and of points 3 to 5 what concerns Line."""

import fractions
import unittest

from tests.plain import LINES, LONG, PlainCase, all_theirs, fraction_list, theirs, walk
from tracerline.errors import BadLine, BadShare, BadTick
from tracerline.exact import Fraction
from tracerline.lines import Line
from tracerline.webs import Web

HALF = Fraction(1, 2)

# Lists that are no shares, with the index of the first wrong entry.
WRONG = [
    ([], 0),
    ([HALF], 0),
    ([-1], 0),
    ([2], 0),
    ([Fraction(-1, 2)], 0),
    ([Fraction(3, 2)], 0),
    ([1, 0], 0),
    ([0, 1], 0),
    ([0, 0], 0),
    ([1, 1], 0),
    ([HALF, HALF], 1),
    ([HALF, 2], 1),
    ([HALF, -1], 1),
    ([HALF, 0, 1], 1),
    ([HALF, 1, 1], 1),
    ([HALF, 0, HALF, 1], 1),
    ([HALF, HALF, 1, HALF, 0], 2),
    ([HALF, Fraction(-1, 3), 1], 1),
    ([HALF, Fraction(4, 3), 0], 1),
    ([-HALF, 5, 1], 0),
    ([HALF, HALF, HALF, HALF, HALF], 4),
    ([HALF, HALF, HALF, 7, HALF, 3], 3),
    ([Fraction(1), HALF, 0], 0),
    ([Fraction(0), HALF, 0], 0),
]


def continued(shares, keep):
    """The worth of a line by the continued fraction of point 19."""
    shares, keep = all_theirs(shares), theirs(keep)
    parts = [shares[0]] + [(1 - shares[k - 1]) * shares[k] for k in range(1, len(shares))]
    # The parts from the innermost denominator outwards.
    inner = fractions.Fraction(1)
    for part in reversed(parts):
        inner = 1 - part * keep / inner
    return 1 / inner


class Making(PlainCase):
    def test_wrong_lists(self):
        for shares, place in WRONG:
            self.check_error(BadLine, {"place": place}, Line, shares)
        self.check_error(BadLine, {"place": 1}, Line, shares=[HALF, HALF])

    def test_shares_length_and_entries(self):
        for shares in LINES:
            line = Line(shares)
            self.check_numbers(line.shares(), shares)
            self.assertEqual(len(line), len(shares))
            for k in range(len(shares)):
                self.check_number(line[k], shares[k])

    def test_integers_and_fractions(self):
        for end in (0, 1):
            for shares in ([HALF, end], [HALF, Fraction(end)], [Fraction(2, 4), Fraction(3 * end, 3)]):
                line = Line(shares)
                self.check_numbers(line.shares(), [HALF, end])
                self.assertEqual(line, Line([HALF, end]))
                self.assertIs(line.end.__class__, int)
                self.assertEqual(line.end, end)
        self.check_numbers(Line([1]).shares(), [1])
        self.check_number(Line([0])[0], 0)

    def test_end_rooms_and_passages(self):
        for shares in LINES:
            line = Line(shares)
            last = len(shares) - (0 if theirs(shares[-1]) == 1 else 1)
            nodes = range(last + 1)
            self.assertIs(line.end.__class__, int)
            self.assertEqual(line.end, theirs(shares[-1]))
            self.assertEqual(line.rooms, len([node for node in nodes if node % 2 == 0]))
            self.assertEqual(line.passages, len([node for node in nodes if node % 2 == 1]))
            self.assertLessEqual({"end", "rooms", "passages"}, set(vars(line)))

    def test_equal_lines(self):
        for j, one in enumerate(LINES):
            for k, other in enumerate(LINES):
                self.assertIs(Line(one) == Line(other), j == k)
                self.assertIs(Line(one) != Line(other), j != k)
        self.assertEqual(Line([Fraction(3, 6), 1]), Line([HALF, Fraction(1)]))
        self.assertNotEqual(Line([HALF, 0]), Line([HALF, 1]))
        self.assertNotEqual(Line([HALF, 0]), Line([HALF, HALF, 0]))

    def test_lists_that_were_passed_in_may_change(self):
        shares = [HALF, Fraction(1, 3), 1]
        line, cut = Line(shares), Line.cut(shares)
        self.assertEqual(shares, [HALF, Fraction(1, 3), 1])
        shares[0] = Fraction(1, 5)
        shares.append(0)
        for kept in (line, cut):
            self.check_numbers(kept.shares(), fraction_list("1/2 1/3 1"))
            self.check_numbers(kept.readings(3), walk(fraction_list("1/2 1/3 1"), 3))

    def test_lists_that_were_returned_may_change(self):
        line = Line(fraction_list("1/2 1/3 1"))
        line.shares()[0] = Fraction(1, 5)
        line.shares().clear()
        line.readings(3).clear()
        self.check_numbers(line.shares(), fraction_list("1/2 1/3 1"))
        self.check_numbers(line.readings(3), walk(fraction_list("1/2 1/3 1"), 3))


class Cutting(PlainCase):
    def test_a_line_is_cut_at_its_first_0_or_1(self):
        for shares in LINES:
            for behind in ([], [0], [1], [HALF], [7], [-1, HALF, 0], [0, 1, Fraction(-9, 4)]):
                line = Line.cut(shares + behind)
                self.assertIs(line.__class__, Line)
                self.check_numbers(line.shares(), shares)
        self.assertEqual(Line.cut(shares=[HALF, 1, 5]), Line([HALF, 1]))
        self.assertEqual(Line.cut([1, 0]), Line([1]))
        self.assertEqual(Line.cut([Fraction(0), 1]), Line([0]))

    def test_an_entry_out_of_range(self):
        for shares, place in [
            ([-1], 0), ([2], 0), ([Fraction(-1, 9), 1], 0), ([HALF, Fraction(10, 9), 1], 1), ([HALF, 2, -1], 1),
            ([HALF, HALF, -HALF, 0, 5], 2), ([HALF, HALF, HALF, 2], 3),
        ]:
            self.check_error(BadLine, {"place": place}, Line.cut, shares)

    def test_no_0_or_1(self):
        for many in range(6):
            self.check_error(BadLine, {"place": many}, Line.cut, [HALF] * many)


class Readings(PlainCase):
    def test_readings_against_a_walk(self):
        for shares in LINES:
            line = Line(shares)
            expected = walk(shares, 20)
            for ticks in (0, 1, 2, 5, 20):
                self.check_numbers(line.readings(ticks), expected[:ticks + 1])
        self.check_numbers(Line([HALF, 1]).readings(ticks=2), [1, HALF, HALF])

    def test_single_readings_up_to_the_tick_40(self):
        for shares in LINES:
            line = Line(shares)
            expected = walk(shares, 40)
            for tick in (40, 3, 0, 13, 1, 27, 3, 40):
                self.check_number(line(tick), expected[tick])
            self.check_numbers(line.readings(40), expected)
        self.check_number(Line([HALF, 1])(tick=7), HALF)

    def test_lines_of_one_share(self):
        self.check_numbers(Line([0]).readings(3), [1, 0, 0, 0])
        self.check_numbers(Line([1]).readings(3), [1, 1, 1, 1])

    def test_long_shares(self):
        shares = [Fraction(LONG, 2 * LONG + 1), Fraction(1, LONG), Fraction(LONG - 1, LONG), Fraction(0)]
        self.check_numbers(Line(shares).readings(6), walk(shares, 6))

    def test_readings_never_rise(self):
        for shares in LINES:
            readings = Line(shares).readings(12)
            for tick in range(12):
                self.assertGreaterEqual(readings[tick], readings[tick + 1])

    def test_negative_ticks(self):
        for shares in LINES:
            for tick in (-1, -2, -40):
                self.check_error(BadTick, {"tick": tick}, Line(shares), tick)
                self.check_error(BadTick, {"tick": tick}, Line(shares).readings, tick)


class Webs(PlainCase):
    def test_the_web_of_a_line(self):
        for shares in LINES:
            line = Line(shares)
            web = line.web()
            self.assertIs(web.__class__, Web)
            self.assertEqual((web.rooms, web.passages), (line.rooms, line.passages))
            self.check_numbers(web.readings(30), walk(shares, 30))

    def test_its_widths_and_totals(self):
        for shares in LINES:
            web = Line(shares).web()
            for room in range(web.rooms):
                self.assertGreaterEqual(web.room_total(room), 1)
                for passage in range(web.passages):
                    self.assertIs(web.width(room, passage).__class__, int)
                    self.assertGreaterEqual(web.width(room, passage), 0)
                    if passage not in (room - 1, room):
                        self.assertEqual(web.width(room, passage), 0)
            for passage in range(web.passages):
                self.assertGreaterEqual(web.passage_total(passage), 1)

    def test_something_is_lost_exactly_if_the_end_is_0(self):
        for shares in LINES:
            web = Line(shares).web()
            self.assertIs(theirs(web.lost(web.rooms)) > 0, theirs(shares[-1]) == 0)


class Limits(PlainCase):
    def test_the_end_0(self):
        for shares in LINES:
            if theirs(shares[-1]) == 0:
                self.check_number(Line(shares).limit(), 0)

    def test_small_lines_of_the_end_1(self):
        self.check_number(Line([1]).limit(), 1)
        self.check_number(Line([HALF, 1]).limit(), HALF)
        self.check_number(Line(fraction_list("3/4 2/3 1")).limit(), Fraction(2, 3))
        self.check_number(Line(fraction_list("1/5 1")).limit(), Fraction(1, 5))

    def test_the_readings_come_near_the_limit(self):
        for shares in LINES:
            limit = theirs(Line(shares).limit())
            distance = walk(shares, 40)[40] - limit
            self.assertGreaterEqual(distance, 0)
            if len(shares) <= 3:
                self.assertLess(distance, fractions.Fraction(1, 100))

    def test_the_limit_is_the_part_of_the_total_of_room_0(self):
        for shares in LINES:
            if theirs(shares[-1]) == 1:
                web = Line(shares).web()
                everything = sum(web.room_total(room) for room in range(web.rooms))
                self.check_number(Line(shares).limit(), Fraction(web.room_total(0), everything))


class Worths(PlainCase):
    def test_against_the_continued_fraction(self):
        for shares in LINES:
            for keep in (0, Fraction(0), HALF, Fraction(1, 7), Fraction(99, 100), Fraction(LONG, LONG + 1)):
                self.check_number(Line(shares).worth(keep), continued(shares, keep))

    def test_keep_1_with_the_end_0(self):
        for shares in LINES:
            if theirs(shares[-1]) == 0:
                for keep in (1, Fraction(1), Fraction(3, 3)):
                    self.check_number(Line(shares).worth(keep), continued(shares, 1))
        self.check_number(Line([0]).worth(1), 1)

    def test_the_sum_comes_near_the_worth(self):
        keep = fractions.Fraction(1, 3)
        for shares in LINES:
            total = sum(keep ** tick * reading for tick, reading in enumerate(walk(shares, 25)))
            distance = theirs(Line(shares).worth(keep=Fraction(1, 3))) - total
            self.assertGreaterEqual(distance, 0)
            self.assertLess(distance, keep ** 25)

    def test_wrong_numbers(self):
        for shares in LINES:
            line = Line(shares)
            for keep in (-1, Fraction(-1, LONG), 2, Fraction(LONG + 1, LONG), Fraction(3, 2)):
                self.check_error(BadShare, {"share": keep}, line.worth, keep)
            if line.end == 1:
                self.check_error(BadShare, {"share": 1}, line.worth, 1)
                self.check_error(BadShare, {"share": Fraction(1)}, line.worth, Fraction(1))


class Examples(PlainCase):
    def test_examples_of_the_interface(self):
        line = Line([Fraction(3, 4), Fraction(2, 3), 1])
        found = [str(reading) for reading in line.readings(3)] + [line.rooms, line.passages]
        self.assertEqual(found, ["1", "3/4", "11/16", "43/64", 2, 2])
        found = [str(line.limit()), str(line.worth(HALF)), str(Line([HALF, 0]).worth(1))]
        self.assertEqual(found, ["2/3", "12/7", "2"])
        self.check_error(BadLine, {"place": 0}, Line, [1, 0])


if __name__ == "__main__":
    unittest.main()
