"""Point 39: webs made from webs."""

import fractions
import math
import unittest

from tests.plain import WEBS, PlainCase, glued_walk, play, shares_of, theirs, web_of
from tracerline.alike import line_of
from tracerline.errors import BadShare, BadTick
from tracerline.exact import Fraction
from tracerline.lineops import every, fading, fronted, glued, paired, waiting
from tracerline.making import every_web, fading_web, fronted_web, glued_web, paired_web, waiting_web
from tracerline.webs import Web

TICKS = 26
SHARES = [0, 1, Fraction(0), Fraction(1), Fraction(1, 2), Fraction(5, 7)]
OUTSIDE = [-1, 2, Fraction(-1, 9), Fraction(10, 9)]
# Webs with leaks of the rooms, of the passages, of both and of none, without a passage, and with rooms that no joint
# leads to; those of the WEBS have all of these, and up to 5 rooms.
SAMPLES = WEBS + [
    ([[1, 0], [0, 3], [0, 0]], [0, 0, 1], [2, 0]),
    ([[0, 0], [4, 5]], [7, 0], []),
    ([[1, 2], [3, 0]], [0, 1], [0, 2]),
]
PAIRS = [(one, two) for one in SAMPLES for two in SAMPLES if len(one[0]) + len(two[0]) <= 5] + [
    (one, one) for one in SAMPLES if len(one[0]) <= 3
]


def played(sample, ticks):
    return [amounts[0] for amounts, lost in play(*sample, ticks=ticks)]


def own_readings(web, ticks):
    """The readings of a web, played by its widths and totals."""
    widths = [[web.width(room, passage) for passage in range(web.passages)] for room in range(web.rooms)]
    room_leaks = [web.room_total(room) - sum(widths[room]) for room in range(web.rooms)]
    passage_leaks = [web.passage_total(passage) - sum(row[passage] for row in widths)
                     for passage in range(web.passages)]
    return played((widths, room_leaks, passage_leaks), ticks)


def shares_of_sample(sample):
    """The shares of the line of a web, found by walks."""
    return shares_of(played(sample, 2 * len(sample[0])))


class WebCase(PlainCase):
    def check_web(self, web, line, expected):
        """The web has these readings, and those of the line."""
        self.assertIs(web.__class__, Web)
        self.assertEqual(own_readings(web, len(expected) - 1), expected)
        self.assertEqual(line_of(web), line)


class Readings(WebCase):
    def test_paired(self):
        for one, two in PAIRS:
            if len(one[0]) * len(two[0]) <= 6:
                expected = [left * right for left, right in zip(played(one, TICKS), played(two, TICKS))]
                line = paired(line_of(web_of(one)), line_of(web_of(two)))
                self.check_web(paired_web(web_of(one), web_of(two)), line, expected)

    def test_every(self):
        for sample in SAMPLES:
            for step in (1, 2, 9) if len(sample[0]) < 4 else (1, 3):
                expected = played(sample, step * TICKS)[::step]
                self.check_web(every_web(step, web_of(sample)), every(step, line_of(web_of(sample))), expected)

    def test_waiting(self):
        for sample in SAMPLES:
            moved = played(sample, TICKS)
            for share in SHARES:
                part = theirs(share)
                expected = [
                    sum(math.comb(tick, j) * part ** j * (1 - part) ** (tick - j) * moved[j] for j in range(tick + 1))
                    for tick in range(TICKS + 1)
                ]
                self.check_web(waiting_web(share, web_of(sample)), waiting(share, line_of(web_of(sample))), expected)

    def test_fading(self):
        for sample in SAMPLES:
            for share in SHARES:
                expected = [theirs(share) ** tick * reading for tick, reading in enumerate(played(sample, TICKS))]
                self.check_web(fading_web(share, web_of(sample)), fading(share, line_of(web_of(sample))), expected)

    def test_glued(self):
        for one, two in PAIRS:
            for share in (0, Fraction(2, 9), 1):
                expected = glued_walk(share, shares_of_sample(one), shares_of_sample(two), TICKS)
                line = glued(share, line_of(web_of(one)), line_of(web_of(two)))
                self.check_web(glued_web(share, web_of(one), web_of(two)), line, expected)

    def test_fronted(self):
        first, second = Fraction(1, 3), Fraction(5, 8)
        for sample in SAMPLES:
            shares = [fractions.Fraction(1, 3), fractions.Fraction(5, 8)] + shares_of_sample(sample)
            # The whole line is one side of a join of which all goes to this side.
            expected = glued_walk(1, shares, [1], TICKS)
            line = fronted(first, second, line_of(web_of(sample)))
            self.check_web(fronted_web(first, second, web_of(sample)), line, expected)

    def test_parameters_by_name(self):
        web, half = Web.shut([[1], [1]]), Fraction(1, 2)
        self.check_number(paired_web(web=web, other=web).readings(1)[1], fractions.Fraction(1, 4))
        self.check_number(every_web(step=2, web=web).readings(1)[1], fractions.Fraction(1, 2))
        self.check_number(waiting_web(share=half, web=web).readings(1)[1], fractions.Fraction(3, 4))
        self.check_number(fading_web(share=half, web=web).readings(1)[1], fractions.Fraction(1, 4))
        self.check_number(glued_web(share=half, web=web, other=web).readings(1)[1], fractions.Fraction(1, 2))
        self.check_number(fronted_web(first=half, second=half, web=web).readings(1)[1], fractions.Fraction(1, 2))

    def test_webs_that_were_returned_are_passed_back(self):
        web = web_of(([[2, 1], [0, 3]], [], [0, 2]))
        readings = web.readings(80)
        found = paired_web(waiting_web(Fraction(1, 2), every_web(2, web)), fading_web(Fraction(1, 3), web))
        again = glued_web(0, web, fronted_web(Fraction(1, 2), Fraction(1, 2), found))
        expected = [
            sum(math.comb(tick, j) * theirs(readings[2 * j]) for j in range(tick + 1))
            * theirs(readings[tick]) / 2 ** tick / 3 ** tick
            for tick in range(13)
        ]
        self.assertEqual(own_readings(found, 12), expected)
        self.assertEqual(line_of(again).shares()[2:], line_of(found).shares())

    def test_example(self):
        web = waiting_web(Fraction(1, 3), Web.shut([[1], [1]]))
        self.assertEqual([str(reading) for reading in web.readings(2)], ["1", "5/6", "13/18"])


class Errors(WebCase):
    def test_shares(self):
        webs = [web_of(sample) for sample in SAMPLES[:6]]
        for web in webs:
            for share in OUTSIDE:
                self.check_error(BadShare, {"share": share}, waiting_web, share, web)
                self.check_error(BadShare, {"share": share}, fading_web, share, web)
                self.check_error(BadShare, {"share": share}, glued_web, share, web, webs[0])

    def test_shares_in_front(self):
        web, half = Web.shut([[1]]), Fraction(1, 2)
        for share in OUTSIDE + [0, 1, Fraction(0), Fraction(1)]:
            self.check_error(BadShare, {"share": share}, fronted_web, share, half, web)
            self.check_error(BadShare, {"share": share}, fronted_web, half, share, web)
            self.check_error(BadShare, {"share": share}, fronted_web, share, -5, web)

    def test_steps(self):
        for step in (0, -1, -4):
            self.check_error(BadTick, {"tick": step}, every_web, step, Web.shut([[1], [1]]))


if __name__ == "__main__":
    unittest.main()
