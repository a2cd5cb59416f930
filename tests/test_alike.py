"""Points 33 to 35."""

import unittest

from tests.plain import LINES, WEBS, PlainCase, all_things, fraction_list, play, shares_of, walk, web_of
from tracerline.alike import alike, groups, last_needed, line_of, parting, seen_apart
from tracerline.exact import Fraction
from tracerline.lines import Line
from tracerline.webs import Web

HALF = Fraction(1, 2)

# Webs whose line is shorter than they are, and the shares of this line.
SHORTER = [
    (([[1, 1], [1, 1]], [], []), "1/2 1"),
    (([[1, 0], [0, 1]], [], []), "1"),
    (([[1, 0], [0, 1], [0, 2]], [0, 3, 0], []), "1"),
    (([[1, 1, 0], [0, 0, 1]], [], []), "1"),
    (([[2, 2, 2]], [], []), "1"),
    (([[1, 1]], [1], []), "2/3 0"),
    (([[1, 1], [1, 1], [1, 1], [1, 1]], [], []), "1/4 1"),
    (([[1, 0], [1, 0], [0, 1], [0, 5]], [0, 1, 0, 0], []), "1/2 1/2 0"),
    (([[0], [1]], [1, 0], []), "0"),
    (([[], []], [1, 1], []), "0"),
    (([[2, 1, 1], [0, 1, 1]], [], []), "3/4 2/3 1"),
    (([[1, 0, 0], [0, 1, 0], [0, 0, 1], [0, 1, 1]], [], []), "1"),
]


def small_webs():
    """Webs of 1 to 4 rooms in every shape."""
    found = []
    for rooms in (1, 2, 3, 4):
        for passages in (1, 2, 3):
            for seed in (1, 2, 5):
                widths = [[(seed * (3 * i + 5 * j + 1)) % 4 for j in range(passages)] for i in range(rooms)]
                found.append((widths, [1] * rooms, [1] * passages))
                found.append(([[width + 1 for width in row] for row in widths], [], []))
                found.append(([[width + 1 for width in row] for row in widths], [], [seed] + [0] * (passages - 1)))
    return found


def plain_readings(thing, ticks):
    """The readings of a thing: lines by a walk, webs by their own play."""
    if thing.__class__ is Line:
        return walk(thing.shares(), ticks)
    return thing.readings(ticks)


def plain_parting(thing, other):
    """The first of the ticks to 24 at which the readings differ: two things of at most 6 rooms part earlier."""
    for tick, (one, two) in enumerate(zip(plain_readings(thing, 24), plain_readings(other, 24))):
        if str(one) != str(two):
            return tick
    return None


class LineOf(PlainCase):
    def check_line(self, web, shares):
        line = line_of(web)
        self.assertIs(line.__class__, Line)
        self.check_numbers(line.shares(), shares)
        self.assertLessEqual(line.rooms, web.rooms)
        self.assertLessEqual(line.passages, web.passages)

    def test_a_line_is_its_own_line(self):
        for shares in LINES:
            self.assertEqual(line_of(Line(shares)), Line(shares))
        self.assertEqual(line_of(thing=Line([1])), Line([1]))

    def test_webs(self):
        for sample in WEBS + small_webs():
            web = web_of(sample)
            readings = [amounts[0] for amounts, lost in play(*sample, ticks=12)]
            shares = shares_of(readings)
            self.check_line(web, shares)
            self.assertEqual([str(r) for r in line_of(web).readings(12)], [str(r) for r in readings])

    def test_webs_of_lines(self):
        for shares in LINES:
            self.check_line(Line(shares).web(), shares)

    def test_webs_whose_line_is_shorter(self):
        for sample, text in SHORTER:
            self.check_line(web_of(sample), fraction_list(text))


class Parting(PlainCase):
    def check_pair(self, thing, other, tick):
        self.assertEqual(parting(thing, other), tick)
        self.assertEqual(parting(other, thing), tick)
        self.assertIs(alike(thing, other), tick is None)
        self.assertIs(alike(other, thing), tick is None)

    def test_all_pairs(self):
        things = [thing for thing in all_things() if thing.rooms <= 5]
        for index, thing in enumerate(things):
            for other in things[:index + 1]:
                tick = plain_parting(thing, other)
                self.check_pair(thing, other, tick)
                if tick is not None:
                    self.assertLessEqual(tick, 2 * min(thing.rooms, other.rooms))

    def test_equal_things(self):
        for shares in LINES:
            self.check_pair(Line(shares), Line(shares).web(), None)
            self.check_pair(Line(shares).web(), Line(shares).web(), None)
        for sample, text in SHORTER:
            self.check_pair(web_of(sample), Line(fraction_list(text)), None)
        self.assertIsNone(parting(other=Line([1]), thing=Line([1])))
        self.assertIs(alike(other=Line([1]), thing=Line([0])), False)

    def test_the_last_tick_at_which_things_can_part(self):
        for rooms in range(1, 7):
            inner = [Fraction(1, k + 2) for k in range(2 * rooms - 1)]
            line, other = Line(inner + [0]), Line(inner + [1])
            self.assertEqual((line.rooms, other.rooms), (rooms, rooms + 1))
            self.check_pair(line, other, 2 * rooms)
            if rooms <= 4:
                self.check_pair(line.web(), other, 2 * rooms)
                self.check_pair(line.web(), other.web(), 2 * rooms)

    def test_the_first_tick(self):
        self.check_pair(Line([0]), Line([1]), 1)
        self.check_pair(Web([[]], room_leaks=[5]), Web([[1]]), 1)
        self.check_pair(Web([[]], room_leaks=[5]), Line([0]), None)


class Groups(PlainCase):
    def test_no_thing_and_one_thing(self):
        self.assertEqual(groups([]), [])
        self.assertEqual(groups(things=[Line([1])]), [[0]])

    def test_several_things(self):
        half, third = Line([HALF, 1]), Line([Fraction(1, 3), 0])
        web = Web.shut([[1], [1]])
        self.assertEqual(groups([half, half, half]), [[0, 1, 2]])
        self.assertEqual(groups([half, third]), [[0], [1]])
        self.assertEqual(groups([third, half, third.web(), web, third, half]), [[0, 2, 4], [1, 3, 5]])
        self.assertEqual(groups([half, third, Line([1]), web, Line([0]), third]), [[0, 3], [1, 5], [2], [4]])

    def test_all_things(self):
        things = all_things() + [Line(shares).web() for shares in LINES] + [web_of(sample) for sample, text in SHORTER]
        things = [thing for thing in things if thing.rooms <= 5]
        expected = []
        for index, thing in enumerate(things):
            same = [group for group in expected if plain_parting(things[group[0]], thing) is None]
            if same:
                same[0].append(index)
            else:
                expected.append([index])
        self.assertEqual(groups(things), expected)

    def test_the_list_stays_as_it_is(self):
        things = [Line([1]), Web.shut([[1]]), Line([0])]
        kept = list(things)
        found = groups(things)
        found[0].append(9)
        self.assertEqual(groups(things), [[0, 1], [2]])
        seen_apart(things)
        self.assertTrue(all(one is other for one, other in zip(things, kept)))
        self.assertEqual(len(things), 3)


class Needed(PlainCase):
    def test_last_needed(self):
        for shares in LINES:
            self.assertEqual(last_needed(Line(shares)), len(shares))
            self.assertEqual(last_needed(Line(shares).web()), len(shares))
        for sample, text in SHORTER:
            self.assertEqual(last_needed(thing=web_of(sample)), len(text.split()))
        for sample in small_webs():
            readings = [amounts[0] for amounts, lost in play(*sample, ticks=12)]
            self.assertEqual(last_needed(web_of(sample)), len(shares_of(readings)))

    def test_seen_apart(self):
        half, third = Line([HALF, 1]), Line([HALF, Fraction(1, 3), 1])
        self.assertEqual(seen_apart([half, third]), 2)
        self.assertEqual(seen_apart(things=[half, third, Line([1])]), 2)
        self.assertEqual(seen_apart([Line([1]), Line([0]), Line([0]).web()]), 1)
        longer = Line([HALF, Fraction(1, 3), HALF, 0])
        self.assertEqual(seen_apart([half, longer, Line([1]), third]), 3)
        self.assertEqual(seen_apart([longer, half, third.web(), longer.web()]), 3)

    def test_things_that_are_all_alike(self):
        half = Line([HALF, 1])
        for things in ([], [half], [half, half], [half, Web.shut([[1], [1]]), half.web()]):
            self.assertEqual(seen_apart(things), 0)

    def test_seen_apart_of_all_things(self):
        things = [thing for thing in all_things() if thing.rooms <= 4]
        ticks = [plain_parting(thing, other) for thing in things for other in things]
        self.assertEqual(seen_apart(things), max(tick for tick in ticks if tick is not None))


class Examples(PlainCase):
    def test_examples_of_the_interface(self):
        webs = [Web.shut([[1, 1], [0, 1]]), Web.shut([[1], [1]]), Web.shut([[2, 1, 1], [0, 1, 1]])]
        found = [str(share) for share in line_of(webs[0]).shares()] + [parting(webs[0], webs[1]), groups(webs)]
        self.assertEqual(found, ["3/4", "2/3", "1", 1, [[0, 2], [1]]])


if __name__ == "__main__":
    unittest.main()
