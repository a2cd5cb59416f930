"""What the document says of several modules at once: webs, their lines, expressions, desks and facts agree."""

import re
import unittest

from tests.plain import LINES, WEBS, PlainCase, all_things, fraction_list, play, theirs, walk, web_of
from tracerline.alike import alike, groups, last_needed, line_of, parting, seen_apart
from tracerline.booktext import read_desk
from tracerline.desk import Desk
from tracerline.errors import Barred, Misfit
from tracerline.exact import Fraction, read_fraction
from tracerline.facts import Facts, facts_of, fit, forecast, later_with, least_total, least_web, settled_by
from tracerline.language import Names, parse, parting_tick, size, value, written
from tracerline.later import fewest, later, limit_between, reached, worth_between
from tracerline.lineops import every, fading, fronted, glued, mixed, mixture, paired, waiting
from tracerline.lines import Line
from tracerline.making import every_web, fading_web, fronted_web, glued_web, paired_web, waiting_web
from tracerline.oneway import delay_row, first_returns, next_one_way, one_way_of, returned, verdict
from tracerline.papers import holds, paper_for
from tracerline.reader import Reader, explained
from tracerline.weights import end_weights

HALF, THIRD = Fraction(1, 2), Fraction(1, 3)
SMALL = [sample for sample in WEBS if len(sample[0]) <= 2]


class WebsAndTheirLines(PlainCase):
    def test_readings_and_sizes(self):
        for thing in all_things():
            line = line_of(thing)
            self.assertEqual(line.readings(40), thing.readings(40))
            self.assertTrue(line.rooms <= thing.rooms and line.passages <= thing.passages)
            self.assertEqual(line_of(line.web()), line)
            self.assertEqual(explained(thing.readings(12), end=1 if line.end == 1 else 0), line)
            self.assertTrue(alike(thing, line.web()))
            self.assertIsNone(parting(line.web(), thing))

    def test_operations_on_webs_and_on_their_lines(self):
        for one in SMALL:
            for two in SMALL[:4]:
                web, other = web_of(one), web_of(two)
                line, second = line_of(web), line_of(other)
                for made, expected in (
                    (paired_web(web, other), paired(line, second)), (every_web(3, web), every(3, line)),
                    (waiting_web(THIRD, web), waiting(THIRD, line)), (fading_web(THIRD, web), fading(THIRD, line)),
                    (glued_web(THIRD, web, other), glued(THIRD, line, second)),
                    (fronted_web(HALF, THIRD, web), fronted(HALF, THIRD, line)),
                ):
                    self.assertTrue(alike(made, expected))
                    self.assertEqual(made.readings(20), expected.readings(20))

    def test_everything_about_readings_agrees(self):
        for thing in all_things():
            line = line_of(thing)
            for ticks in (0, 1, 2, 4, 7):
                readings = thing.readings(ticks)
                for tick in (ticks, ticks + 1, ticks + 5):
                    reading = thing.readings(tick)[tick]
                    least, greatest = later(readings, tick)
                    self.assertTrue(least <= reading <= greatest)
                    self.assertEqual(reached(readings, tick, reading)(tick), reading)
                    for kind, bound in (("least", least), ("greatest", greatest)):
                        paper = paper_for(readings, tick, kind)
                        self.assertTrue(holds(paper, readings))
                        self.assertEqual(paper.value(readings), bound)
                low, high = worth_between(readings, HALF)
                self.assertTrue(low <= line.worth(HALF) <= high)
                low, high = limit_between(readings)
                self.assertTrue(low <= line.limit() <= high)
                rooms, passages = fewest(readings)
                self.assertTrue(rooms <= line.rooms and passages <= line.passages)

    def test_a_reader_takes_what_a_web_shows(self):
        for thing in all_things():
            reader = Reader()
            for tick, reading in enumerate(thing.readings(12)[1:], start=1):
                self.assertEqual((reader.low, reader.high), later(reader.readings(), tick))
                self.assertIn(reading, reader)
                reader.take(reading)
                self.assertEqual(reader.settled, tick >= last_needed(thing))
            self.assertEqual(reader.readings(), thing.readings(12))

    def test_mixtures_of_the_two_end_lines_reach_what_is_between(self):
        readings = [1, HALF, Fraction(3, 10)]
        low, high = explained(readings), explained(readings, end=1)
        for share in (Fraction(0), THIRD, Fraction(1)):
            line = mixed(share, high, low)
            self.assertEqual(line, mixture((share, high), (1 - share, low)))
            self.assertEqual(line.readings(2), readings)
            self.assertEqual(reached(readings, 5, line(5))(5), line(5))


class OneWayWebs(PlainCase):
    def test_of_webs(self):
        for sample in WEBS:
            web = web_of(sample)
            readings = web.readings(8)
            self.assertEqual(one_way_of(web).readings(8), readings)
            self.assertEqual(verdict(readings), "two-way")
            self.assertEqual(delay_row(first_returns(readings)).readings(8), readings)
            self.assertEqual(returned(first_returns(readings)), readings)
            for ticks in range(8):
                least, greatest = later(readings[:ticks + 1], ticks + 1)
                low, high = next_one_way(readings[:ticks + 1])
                self.assertTrue(low <= least <= greatest <= high)

    def test_first_returns_of_glued_lines(self):
        one, two = Line(fraction_list("1/2 1/3 1")), Line(fraction_list("2/5 1/7 1/2 0"))
        found = first_returns(glued(THIRD, one, two).readings(12))
        pairs = zip(first_returns(one.readings(12)), first_returns(two.readings(12)))
        self.assertEqual(found, [THIRD * left + (1 - THIRD) * right for left, right in pairs])

    def test_readings_that_are_barred(self):
        readings = [1, HALF, Fraction(3, 4)]
        self.assertEqual(verdict(readings), "one-way")
        with self.assertRaises(Barred) as caught:
            explained(readings)
        self.assertTrue(caught.exception.weights.bars(readings))
        self.assertTrue(end_weights([HALF], 1).bars(readings))


class ExpressionsAndDesks(PlainCase):
    def test_names_for_a_web_and_for_its_line(self):
        for sample in SMALL:
            names = Names()
            names["web"] = web_of(sample)
            names["line"] = line_of(web_of(sample))
            for text in ("mix(1/3, X, [1/2, 0])", "pair(X, X)", "every(2, X)", "wait(1/3, X)", "fade(2/3, X)",
                         "glue(1/4, X, [1/2, 1])", "front(1/2, 1/3, X)"):
                one, two = parse(text.replace("X", "web")), parse(text.replace("X", "line"))
                self.assertIsNone(parting_tick(one, two, names))
                self.assertEqual(value(one, names), value(two, names))
                self.assertLessEqual(value(one, names).rooms, size(one, names))
                self.assertEqual(parse(written(one)), one)

    def test_a_web_and_its_line_stand_together(self):
        for sample in WEBS:
            web = web_of(sample)
            desk = Desk()
            desk.add_station("a")
            desk.suppose("a", "web", web)
            desk.suppose("a", "line", line_of(web))
            self.assertIsNone(desk.telling("a"))
            struck = desk.take_all([("a", reading) for reading in web.readings(12)[1:]])
            self.assertEqual((struck, desk.standing("a")), ([], ["web", "line"]))
            for tick in (0, 5, 12, 30):
                self.check_number(desk.agreed("a", tick), play(*sample, ticks=tick)[tick][0][0])
                if tick >= len(line_of(web)):
                    self.assertEqual(desk.between("a", tick), (desk.agreed("a", tick),) * 2)
            # A text is asked for only if no numeral in it has more than 60 digits.
            if max(len(numeral) for numeral in re.findall("[0-9]+", desk.text())) <= 60:
                self.assertEqual(read_desk(desk.text()).text(), desk.text())

    def test_groups_are_names_for_equal_values(self):
        things = all_things()
        for group in groups(things):
            names = Names()
            for index, name in zip(group, "abcdefghijklmnopqrstuvwxyz"):
                names[name] = things[index]
                self.assertIsNone(parting_tick(("name", name), ("name", "a"), names))

    def test_a_desk_tells_things_apart_as_parting_does(self):
        things = all_things()[::3]
        for one in things:
            for two in things:
                desk = Desk()
                desk.add_station("a")
                desk.suppose("a", "x", one)
                desk.suppose("a", "y", two)
                tick = parting(one, two)
                self.assertEqual(desk.telling("a"), tick)
                if tick is not None and tick <= 12:
                    desk.take_all([("a", reading) for reading in one.readings(tick - 1)[1:]])
                    self.assertEqual(desk.telling("a"), tick)
                    self.assertEqual(desk.note("a", one.readings(tick)[tick]), ["y"])
                    self.check_error(Misfit, {"tick": tick}, desk.suppose, "a", "z", two)
                    self.assertLessEqual(tick, seen_apart([one, two]))

    def test_values_of_expressions_at_a_desk(self):
        names = Names()
        names["a"] = web_of(WEBS[5])
        desk = Desk()
        desk.add_station("pond")
        for label, text in (("x", "a"), ("y", "mix(1/2, a, a)"), ("z", "every(2, a)")):
            desk.suppose("pond", label, value(parse(text), names))
        self.assertEqual(desk.telling("pond"), parting_tick(parse("a"), parse("every(2, a)"), names))
        self.assertEqual(desk.note("pond", names["a"].readings(1)[1]), ["z"])
        self.assertIsNone(desk.telling("pond"))


class FactsAndTheRest(PlainCase):
    def test_without_facts(self):
        for thing in all_things():
            line = line_of(thing)
            for ticks in (0, 1, 3):
                readings = thing.readings(ticks)
                self.assertIs(fit(readings, Facts()), True)
                for tick in (0, ticks + 1, ticks + 6):
                    self.assertEqual(later_with(readings, tick, Facts())[:2], later(readings, tick))
                self.assertEqual(settled_by(readings, Facts()), ticks >= len(line))
                web = least_web(readings, Facts())
                self.assertEqual((web.rooms, web.passages), fewest(readings))

    def test_facts_of_a_web_settle_its_readings_in_time(self):
        for sample in WEBS:
            web = web_of(sample)
            readings = web.readings(min(2 * web.rooms, 2 * web.passages + 1))
            self.assertIs(settled_by(readings, facts_of(web)), True)
            self.assertTrue(alike(least_web(readings, facts_of(web)), web))

    def test_limits_of_webs_that_lose_nothing(self):
        for sample in WEBS:
            web = web_of(sample)
            if not facts_of(web).leaks:
                limit = line_of(web).limit()
                self.assertEqual(least_total(web.readings(12)) * limit, 1)
                for ticks in (0, 1, 2):
                    self.assertTrue(least_total(web.readings(ticks)) <= least_total(web.readings(12)))

    def test_forecasts(self):
        for shares in LINES[:8]:
            readings = Line(shares).readings(2)
            for tick, row in enumerate(forecast(readings, 6).split("\n")):
                words = row.split()
                self.assertEqual(int(words[0]), tick)
                self.assertEqual(tuple(read_fraction(word) for word in words[1:]), later(readings, tick))
                self.assertTrue(read_fraction(words[1]) <= Line(shares)(tick) <= read_fraction(words[2]))
                self.assertEqual(theirs(Line(shares)(tick)), walk(shares, tick)[tick])


if __name__ == "__main__":
    unittest.main()
