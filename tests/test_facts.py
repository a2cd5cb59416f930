"""Points 53 to 57: facts beside the readings."""

import fractions
import unittest

from tests.plain import LINES, LONG, WEBS, PlainCase, all_theirs, fraction_list, lists_of_readings, ours, play
from tests.plain import range_behind, shares_of, theirs, walk, web_of
from tracerline.errors import BadReadings, BadTick, BadWeb, Barred, TracerError
from tracerline.exact import Fraction
from tracerline.facts import (
    Clash, Facts, facts_of, fit, forecast, later_with, least_total, least_web, settled_by,
)
from tracerline.later import later
from tracerline.webs import Web

HALF = Fraction(1, 2)
TINY = Fraction(1, LONG)
BOTH = (None, True, False)
# Readings that are not settled, with 0 to 5 shares, and readings that are, with both ends.
OPEN = ["", "1/2", "3/4 2/3", "1/3 1/4 1/5", "1/2 1/3 2/3 1/4", "9/10 1/10 1/2 1/3 3/4"]
SETTLED = ["0", "1", "1/2 0", "1/2 1", "1/2 1/3 0", "3/4 2/3 1", "1/2 1/3 1/4 0", "1/2 1/3 1/4 1"]


def readings_of(text, ticks=None):
    """The readings with these shares, up to the tick of the last one, or further if they are settled."""
    shares = fraction_list(text)
    if ticks is None:
        ticks = len(shares)
    return [ours(reading) for reading in walk(shares if text in SETTLED else shares + [0], ticks)]


def sizes(shares):
    """The numbers of rooms and passages of a line, by counting its nodes."""
    last = len(shares) if shares[-1] == 1 else len(shares) - 1
    return len(range(0, last + 1, 2)), len(range(1, last + 1, 2))


def has(shares, facts):
    """Whether the line of the shares has the facts."""
    rooms, passages = sizes(shares)
    enough = facts.rooms is None or rooms <= facts.rooms
    enough = enough and (facts.passages is None or passages <= facts.passages)
    return enough and facts.leaks in (None, shares[-1] == 0)


def lines_with(readings, facts):
    """Lists of shares of lines that have the facts and show the readings, with some shares of every kind behind."""
    shares = shares_of(readings)
    if shares and shares[-1] in (0, 1):
        return [shares] if has(shares, facts) else []
    some = [fractions.Fraction(1, 1000), fractions.Fraction(1, 3), fractions.Fraction(999, 1000)]
    behind = [[]] + [[one] for one in some] + [[one, some[1]] for one in some] + [[one, some[1], some[2]] for one in some]
    found = [shares + more + [end] for more in behind for end in (0, 1)]
    return [line for line in found if has(line, facts)]


def all_facts():
    """Facts with every number about which anything changes, alone and together."""
    numbers = [None, 1, 2, 3, 4]
    return [Facts(rooms=rooms, passages=passages, leaks=leaks)
            for rooms in numbers for passages in [0] + numbers for leaks in BOTH]


def samples():
    return [readings_of(text) for text in OPEN + SETTLED] + [readings_of(text, 7) for text in SETTLED]


class FactsCase(PlainCase):
    def check_facts(self, facts, rooms, passages, leaks):
        self.assertIs(facts.__class__, Facts)
        self.assertEqual((facts.rooms, facts.passages), (rooms, passages))
        self.assertIs(facts.leaks, leaks)


class MakingFacts(FactsCase):
    def test_attributes(self):
        self.check_facts(Facts(), None, None, None)
        self.check_facts(Facts(rooms=1, passages=0, leaks=False), 1, 0, False)
        self.check_facts(Facts(leaks=True, rooms=5), 5, None, True)
        self.assertEqual(set(vars(Facts())), {"rooms", "passages", "leaks"})

    def test_by_name_only(self):
        with self.assertRaises(TypeError):
            Facts(1)

    def test_errors(self):
        for rooms in (0, -1):
            self.check_error(BadWeb, {"reason": "rooms"}, Facts, rooms=rooms)
            self.check_error(BadWeb, {"reason": "rooms"}, Facts, rooms=rooms, passages=-1, leaks=True)
        for passages in (-1, -9):
            self.check_error(BadWeb, {"reason": "passages"}, Facts, passages=passages)
            self.check_error(BadWeb, {"reason": "passages"}, Facts, rooms=1, passages=passages)

    def test_clash(self):
        self.assertEqual(Clash.__bases__, (TracerError,))
        self.assertEqual(vars(Clash()), {})
        self.assertEqual(Clash.__module__, "tracerline.facts")

    def test_facts_of_webs(self):
        for sample in WEBS:
            lost = play(*sample, ticks=40)[-1][1]
            self.check_facts(facts_of(web=web_of(sample)), len(sample[0]), len(sample[0][0]), lost > 0)

    def test_leaks_that_nothing_comes_to(self):
        # The leak is at the end of a row of joints, behind none, or beside a joint that nothing uses.
        for sample, leaks in (
            (([[1, 0], [0, 1]], [0, 5], [0, 0]), False),
            (([[1, 0], [0, 1]], [0, 0], [0, 5]), False),
            (([[1, 0, 0], [1, 1, 0], [0, 1, 1]], [0, 0, 0], [0, 0, 1]), True),
            (([[1, 0, 0], [1, 1, 0], [0, 1, 1]], [0, 0, 1], [0, 0, 0]), True),
            (([[1, 0, 0], [1, 1, 0], [0, 0, 1]], [0, 0, 1], [0, 0, 3]), False),
            (([[1]], [0], [1]), True),
            (([[], []], [1, 1], []), True),
        ):
            self.check_facts(facts_of(web_of(sample)), len(sample[0]), len(sample[0][0]), leaks)


class Fit(FactsCase):
    def test_against_lines_with_the_facts(self):
        for readings in samples():
            for facts in all_facts():
                self.assertIs(fit(readings, facts), bool(lines_with(readings, facts)), (readings, vars(facts)))

    def test_each_number_at_which_it_just_fits(self):
        for text, rooms, passages in (("", 1, 0), ("1/2", 1, 1), ("1/2 1/3", 2, 1), ("1/2 1/3 1/4", 2, 2)):
            readings = readings_of(text)
            self.assertIs(fit(readings, Facts(rooms=rooms, passages=passages)), True)
            self.assertIs(fit(readings, Facts(rooms=rooms, passages=passages, leaks=True)), True)
            if passages:
                self.assertIs(fit(readings, Facts(passages=passages - 1)), False)
            if rooms > 1:
                self.assertIs(fit(readings, Facts(rooms=rooms - 1)), False)
        for text, rooms, passages in (("", 1, 1), ("1/2", 2, 1), ("1/2 1/3", 2, 2), ("1/2 1/3 1/4", 3, 2)):
            readings = readings_of(text)
            self.assertIs(fit(readings, Facts(rooms=rooms, passages=passages, leaks=False)), True)
            self.assertIs(fit(readings, Facts(rooms=rooms, passages=passages - 1, leaks=False)), False)
            if rooms > 1:
                self.assertIs(fit(readings, Facts(rooms=rooms - 1, passages=passages, leaks=False)), False)

    def test_settled_readings(self):
        for readings, leaks in ((readings_of("1/2 0"), True), (readings_of("1/2 1"), False)):
            for said in BOTH:
                self.assertIs(fit(readings, Facts(leaks=said)), said in (None, leaks))

    def test_webs_fit_their_facts(self):
        for sample in WEBS:
            web = web_of(sample)
            for ticks in (0, 1, 2, 5, 12):
                self.assertIs(fit(readings=web.readings(ticks), facts=facts_of(web)), True)

    def test_example(self):
        readings = [1, Fraction(3, 4), Fraction(11, 16)]
        self.assertEqual(
            [fit(readings, Facts(rooms=1)), fit(readings, Facts(rooms=2, passages=1, leaks=False)),
             str(least_total(readings))],
            [False, False, "3/2"])


class LaterWith(FactsCase):
    def expected(self, readings, tick, facts):
        """The tuple that later_with returns, from the next shares of lines with the facts."""
        if tick < len(readings):
            return (theirs(readings[tick]),) * 2 + (True, True)
        shares = shares_of(readings)
        least, greatest = range_behind(shares, tick)
        if shares and shares[-1] in (0, 1):
            return least, greatest, True, True
        following = {line[len(shares)] for line in lines_with(readings, facts)}
        if following in ({0}, {1}):
            only = least if following == {0} else greatest
            return only, only, True, True
        return least, greatest, 0 in following, 1 in following

    def test_against_lines_with_the_facts(self):
        for readings in samples():
            last = len(readings) - 1
            for facts in all_facts():
                if not lines_with(readings, facts):
                    self.check_error(Clash, {}, later_with, readings, last, facts)
                    continue
                for tick in {0, last, last + 1, last + 3}:
                    found = later_with(readings, tick, facts)
                    self.assertIs(found.__class__, tuple)
                    self.check_numbers(list(found[:2]), list(self.expected(readings, tick, facts)[:2]))
                    self.assertEqual(found[2:], self.expected(readings, tick, facts)[2:])
                    self.assertTrue({found[2].__class__, found[3].__class__} == {bool})

    def test_every_web_with_the_facts_is_between(self):
        for readings in [readings_of(text) for text in OPEN]:
            tick = len(readings) + 1
            for facts in all_facts():
                shown = [walk(line, tick)[tick] for line in lines_with(readings, facts)]
                if shown:
                    least, greatest, low, high = later_with(readings=readings, tick=tick, facts=facts)
                    self.assertEqual(theirs(least) in shown, low)
                    self.assertEqual(theirs(greatest) in shown, high)
                    self.assertTrue(all(least <= ours(reading) <= greatest for reading in shown))
                    # Shares of 1/1000 and 999/1000 come near to both.
                    part = fractions.Fraction(1, 100) * (theirs(greatest) - theirs(least))
                    self.assertLessEqual(min(shown) - theirs(least), part)
                    self.assertLessEqual(theirs(greatest) - max(shown), part)

    def test_each_kind_of_next_share(self):
        readings = [1, HALF]
        quarter, half = Fraction(1, 4), HALF
        for facts, expected in (
            (Facts(), (quarter, half, True, True)),
            (Facts(leaks=True), (quarter, half, True, False)),
            (Facts(leaks=False), (quarter, half, False, True)),
            (Facts(rooms=1), (quarter, quarter, True, True)),
            (Facts(passages=1), (quarter, half, True, True)),
            (Facts(rooms=1, leaks=True), (quarter, quarter, True, True)),
            (Facts(rooms=2, leaks=True), (quarter, half, True, False)),
            (Facts(passages=1, leaks=False), (half, half, True, True)),
            (Facts(rooms=2, leaks=False), (quarter, half, False, True)),
            (Facts(rooms=2, passages=1, leaks=False), (half, half, True, True)),
            (Facts(rooms=2, passages=2, leaks=False), (quarter, half, False, True)),
        ):
            self.assertEqual(later_with(readings, 2, facts), expected)

    def test_webs_are_between(self):
        for sample in WEBS:
            web = web_of(sample)
            for ticks in (0, 1, 3):
                least, greatest, low, high = later_with(web.readings(ticks), 9, facts_of(web))
                reading = web.readings(9)[9]
                self.assertTrue(least <= reading <= greatest)
                self.assertTrue(low or reading != least)
                self.assertTrue(high or reading != greatest)

    def test_example(self):
        readings = [1, HALF]
        least, greatest, low, high = later_with(readings, 2, Facts(leaks=False))
        self.assertEqual([str(least), str(greatest), low, high, settled_by(readings, Facts(rooms=1))],
                         ["1/4", "1/2", False, True, True])


class SettledBy(FactsCase):
    def test_against_lines_with_the_facts(self):
        for readings in samples():
            for facts in all_facts():
                lines = lines_with(readings, facts)
                if lines:
                    one = len({tuple(walk(line, 12)) for line in lines}) == 1
                    self.assertIs(settled_by(readings=readings, facts=facts), one, (readings, vars(facts)))

    def test_each_number_at_which_it_is_just_settled(self):
        for text, rooms, passages in (("", 1, 0), ("1/2", 1, 1), ("1/2 1/3", 2, 1), ("1/2 1/3 1/4", 2, 2)):
            readings = readings_of(text)
            self.assertIs(settled_by(readings, Facts(rooms=rooms, passages=passages)), True)
            self.assertIs(settled_by(readings, Facts(rooms=rooms + 1, passages=passages + 1)), False)
            self.assertIs(settled_by(readings, Facts()), False)
            self.assertIs(settled_by(readings, Facts(leaks=True)), False)
            self.assertIs(settled_by(readings, Facts(leaks=False)), False)

    def test_settled_readings(self):
        for text in SETTLED:
            self.assertIs(settled_by(readings_of(text), Facts()), True)


class LeastWeb(FactsCase):
    def test_against_lines_with_the_facts(self):
        for readings in samples():
            for facts in all_facts():
                lines = lines_with(readings, facts)
                if lines:
                    web = least_web(readings=readings, facts=facts)
                    self.assertIs(web.__class__, Web)
                    self.assertEqual(web.readings(len(readings) - 1), readings)
                    self.assertEqual(web.rooms, min(sizes(line)[0] for line in lines))
                    self.assertEqual(web.passages, min(sizes(line)[1] for line in lines))
                    lost = web.lost(web.rooms) > 0
                    self.assertIn(facts.leaks, (None, lost))

    def test_of_the_facts_of_webs(self):
        for sample in WEBS:
            web = web_of(sample)
            facts = facts_of(web)
            found = least_web(web.readings(12), facts)
            self.assertEqual(found.readings(20), web.readings(20))
            self.assertTrue(found.rooms <= facts.rooms and found.passages <= facts.passages)
            self.assertIs(facts_of(found).leaks, facts.leaks)


class Errors(FactsCase):
    def test_errors_of_explained_come_first(self):
        never = Facts(rooms=1, passages=0, leaks=False)
        for readings in ([], [0], [HALF, 1]):
            for function, rest in ((fit, (never,)), (later_with, (-1, never)), (settled_by, (never,)),
                                   (least_web, (never,)), (least_total, ()), (forecast, (-1,))):
                self.check_error(BadReadings, {}, function, readings, *rest)
        readings = [1, HALF, Fraction(1, 5), 7]
        for function, rest in ((fit, (never,)), (later_with, (-1, never)), (settled_by, (never,)), (least_web, (never,)),
                               (least_total, ()), (forecast, (-1,))):
            with self.assertRaises(Barred) as caught:
                function(readings, *rest)
            self.assertEqual(caught.exception.tick, 2)
            self.assertTrue(caught.exception.weights.bars(readings[:3]))

    def test_ticks_before_clashes(self):
        never = Facts(rooms=1, passages=0, leaks=False)
        for tick in (-1, -5):
            self.check_error(BadTick, {"tick": tick}, later_with, [1, HALF], tick, never)
            self.check_error(BadTick, {"tick": tick}, later_with, [1, HALF], tick, Facts())

    def test_clashes(self):
        for readings in samples():
            for facts in all_facts():
                if not lines_with(readings, facts):
                    for tick in (0, len(readings) + 2):
                        self.check_error(Clash, {}, later_with, readings, tick, facts)
                    self.check_error(Clash, {}, settled_by, readings, facts)
                    self.check_error(Clash, {}, least_web, readings, facts)


class LeastTotal(FactsCase):
    def total_of(self, sample):
        """The totals of the rooms that anything comes to, over that of room 0; None if anything is lost."""
        states = play(*sample, ticks=20)
        if states[-1][1] > 0:
            return None
        rooms = {room for amounts, lost in states for room, amount in enumerate(amounts) if amount > 0}
        return fractions.Fraction(sum(sum(sample[0][room]) for room in rooms), sum(sample[0][0]))

    def test_webs_that_lose_nothing(self):
        for sample in WEBS + [([[3, 1, 0], [1, 0, 2], [0, 0, 4]], [], []), ([[1, 0], [2, 0], [0, 5]], [], [])]:
            total = self.total_of(sample)
            if total is not None:
                readings = web_of(sample).readings(20)
                for ticks in (0, 1, 2, 3):
                    self.assertLessEqual(theirs(least_total(readings[:ticks + 1])), total)
                # All readings settle the line, and so what the readings approach.
                self.check_number(least_total(readings), total)

    def test_lines_with_the_end_1(self):
        for shares in LINES:
            if shares[-1] == 1:
                readings = [ours(reading) for reading in walk(shares, len(shares) + 1)]
                held, onward = [fractions.Fraction(1)], fractions.Fraction(1)
                for share in all_theirs(shares):
                    held.append(held[-1] * onward / share)
                    onward = 1 - share
                self.check_number(least_total(readings=readings), sum(held[::2]))

    def test_open_readings(self):
        self.check_number(least_total([1]), 1)
        self.check_number(least_total([1, HALF]), 2)
        self.check_number(least_total([1, Fraction(3, 4), Fraction(11, 16)]), fractions.Fraction(3, 2))

    def test_clash(self):
        for text in ("0", "1/2 0", "1/2 1/3 0"):
            self.check_error(Clash, {}, least_total, readings_of(text))
            self.check_error(Clash, {}, least_total, readings_of(text, 6))


class Forecast(FactsCase):
    def test_lines(self):
        for readings in [list_[:end] for list_ in lists_of_readings() for end in (1, 2, 4)]:
            rows = []
            for tick in range(7):
                least, greatest = later(readings, tick)
                rows.append(" ".join([str(tick).rjust(4), str(least).rjust(24), str(greatest).rjust(24)]))
            self.assertEqual(forecast(readings=readings, ticks=6), "\n".join(rows))

    def test_one_line(self):
        self.assertEqual(forecast([1], 0), "   0" + " " * 24 + "1" + " " * 24 + "1")
        self.assertEqual(forecast([1, HALF], 0), forecast([1], 0))

    def test_example(self):
        self.assertEqual(forecast([1, HALF], 3).split("\n")[3], "   3                      1/8                      1/2")

    def test_numbers_that_need_more_characters(self):
        small = Fraction(1, 10 ** 11)
        lines = forecast([1, small], 3).split("\n")
        self.assertEqual(lines[1], "   1           1/" + "1" + "0" * 11 + "           1/1" + "0" * 11)
        self.assertEqual(lines[2], "   2 1/1" + "0" * 22 + " " + "1/100000000000".rjust(24))
        self.assertEqual(lines[3], "   3 1/1" + "0" * 33 + " " + "1/100000000000".rjust(24))
        self.assertEqual([len(line) for line in lines], [54, 54, 55, 66])

    def test_widths_of_ticks(self):
        lines = forecast([1], 40).split("\n")
        self.assertEqual(len(lines), 41)
        self.assertEqual([line[:5] for line in (lines[9], lines[10], lines[40])], ["   9 ", "  10 ", "  40 "])

    def test_negative_ticks(self):
        for ticks in (-1, -8):
            self.check_error(BadTick, {"tick": ticks}, forecast, [1, HALF], ticks)


if __name__ == "__main__":
    unittest.main()
