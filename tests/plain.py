"""What the tests compare with: plays, walks and sums over fractions of the standard library, step by step."""

import fractions
import unittest

from tracerline.exact import Fraction
from tracerline.lines import Line
from tracerline.webs import Web

LONG = 10 ** 239 + 7


def theirs(number):
    """The number as a fraction of the standard library."""
    if isinstance(number, Fraction):
        return fractions.Fraction(number.top, number.bottom)
    return fractions.Fraction(number)


def ours(number):
    """The number as a Fraction of the program."""
    number = fractions.Fraction(number)
    return Fraction(number.numerator, number.denominator)


def all_theirs(numbers):
    return [theirs(number) for number in numbers]


def fraction_list(text):
    """The Fractions that a text of words such as 1/2 or 1 writes."""
    return [ours(word) for word in text.split()]


def play(widths, room_leaks=(), passage_leaks=(), *, start=0, ticks=0):
    """The amounts in the rooms after 0 to ticks ticks, and what has been lost by then: a list of (amounts, lost)."""
    rooms, passages = len(widths), len(widths[0])
    room_leaks = list(room_leaks) or [0] * rooms
    passage_leaks = list(passage_leaks) or [0] * passages
    amounts = [fractions.Fraction(int(room == start)) for room in range(rooms)]
    lost = fractions.Fraction(0)
    states = [(amounts, lost)]
    for _ in range(ticks):
        held = [fractions.Fraction(0)] * passages
        for room in range(rooms):
            total = sum(widths[room]) + room_leaks[room]
            for passage in range(passages):
                held[passage] += amounts[room] * widths[room][passage] / total
            lost += amounts[room] * room_leaks[room] / total
        amounts = [fractions.Fraction(0)] * rooms
        for passage in range(passages):
            total = sum(widths[room][passage] for room in range(rooms)) + passage_leaks[passage]
            for room in range(rooms):
                amounts[room] += held[passage] * widths[room][passage] / total
            lost += held[passage] * passage_leaks[passage] / total
        states.append((amounts, lost))
    return states


def walk(shares, ticks):
    """The amounts in node 0 after 0 to ticks ticks, by half ticks over the nodes of the line of the shares."""
    shares = all_theirs(shares)
    down = [fractions.Fraction(0)] + shares
    last = len(shares) if shares[-1] == 1 else len(shares) - 1
    amounts = [fractions.Fraction(int(node == 0)) for node in range(last + 1)]
    readings = [amounts[0]]
    for _ in range(ticks):
        for parity in (0, 1):
            moved = [fractions.Fraction(0)] * (last + 1)
            for node in range(parity, last + 1, 2):
                if node > 0:
                    moved[node - 1] += amounts[node] * down[node]
                if node < last:
                    moved[node + 1] += amounts[node] * (1 - down[node])
            amounts = moved
        readings.append(amounts[0])
    return readings


def glued_walk(share, one, other, ticks):
    """The amounts in node 0 of two lines that have only this node in common; the first one gets the share of it."""
    tracks = []
    for shares in (one, other):
        shares = all_theirs(shares)
        tracks.append(([fractions.Fraction(0)] + shares, len(shares) if shares[-1] == 1 else len(shares) - 1))
    parts = (theirs(share), 1 - theirs(share))
    amounts = {"middle": fractions.Fraction(1)}
    readings = [amounts["middle"]]
    for half in range(2 * ticks):
        moved = {}
        for node, amount in amounts.items():
            for place, part in _glued_targets(node, tracks, parts):
                moved[place] = moved.get(place, 0) + amount * part
        amounts = moved
        if half % 2 == 1:
            readings.append(amounts.get("middle", fractions.Fraction(0)))
    return readings


def _glued_targets(node, tracks, parts):
    """Where a node of glued lines sends its amount, as a list of (node, part); a node is (track, place) or "middle"."""
    if node == "middle":
        return [((track, 1), parts[track]) for track in (0, 1) if tracks[track][1] >= 1]
    track, place = node
    down, last = tracks[track]
    found = [((track, place - 1) if place > 1 else "middle", down[place])]
    if place < last:
        found.append(((track, place + 1), 1 - down[place]))
    return found


def product(one, other):
    """The coefficients of the product of two polynomials that are lists of coefficients."""
    found = [fractions.Fraction(0)] * (len(one) + len(other) - 1)
    for j, left in enumerate(all_theirs(one)):
        for k, right in enumerate(all_theirs(other)):
            found[j + k] += left * right
    return found


def total(numbers, readings):
    """The sum of number k times readings[k]."""
    return sum((theirs(number) * theirs(reading) for number, reading in zip(numbers, readings)), fractions.Fraction(0))


# The shares of lines with both ends, of 1 to 13 shares.
LINES = [fraction_list(text) for text in (
    "0",
    "1",
    "1/2 0",
    "1/2 1",
    "3/4 2/3 1",
    "1/3 1/4 0",
    "9/10 1/10 9/10 0",
    "1/7 6/7 1/2 1",
    "1/2 1/3 1/4 1/5 0",
    "2/3 2/5 2/7 2/9 1",
    "1/2 1/2 1/2 1/2 1/2 0",
    "3/5 1/5 4/5 2/5 1/2 1",
    "1/3 2/3 1/3 2/3 1/3 2/3 1",
    "5/6 1/6 5/6 1/6 5/6 1/6 1/2 0",
    "1/2 1/3 1/2 1/3 1/2 1/3 1/2 1/3 1",
    "1/9 2/9 1/3 4/9 5/9 2/3 7/9 8/9 1/2 0",
    "1/2 2/3 3/4 4/5 5/6 6/7 7/8 8/9 9/10 10/11 1",
    "1/2 1/2 1/2 1/2 1/2 1/2 1/2 1/2 1/2 1/2 1/2 1",
    "2/3 1/4 2/3 1/4 2/3 1/4 2/3 1/4 2/3 1/4 2/3 0",
    "1/2 1/3 2/3 1/4 3/4 1/5 2/5 3/5 4/5 1/6 5/6 1/7 1",
)]

# Webs as (widths, leaks of the rooms, leaks of the passages).
WEBS = [
    ([[]], [3], []),
    ([[], []], [1, 2], []),
    ([[1]], [], []),
    ([[4]], [1], []),
    ([[1]], [], [2]),
    ([[2, 1], [0, 3]], [], [0, 2]),
    ([[1, 1], [0, 1]], [], []),
    ([[1], [1]], [], []),
    ([[1], [2]], [0, 5], [3]),
    ([[2, 1, 1], [0, 1, 1]], [], []),
    ([[3, 0, 1], [0, 2, 2], [1, 1, 0]], [0, 0, 4], [1, 0, 0]),
    ([[5, 0], [0, 7]], [], []),
    ([[1, 0], [0, 1], [2, 2], [0, 9]], [1, 0, 0, 0], [0, 0]),
    ([[99, 1, 0, 3, 7], [0, 98, 5, 0, 1], [2, 0, 97, 1, 4], [1, 6, 0, 96, 2], [8, 0, 3, 0, 95]],
     [0, 1, 99, 0, 2], [3, 0, 1, 0, 98]),
    ([[1, 2, 3, 4, 5], [6, 7, 8, 9, 10], [11, 12, 13, 14, 15], [16, 17, 18, 19, 20], [21, 22, 23, 24, 25]], [], []),
]


def web_of(sample):
    """The Web of one of the WEBS."""
    widths, room_leaks, passage_leaks = sample
    return Web(widths, room_leaks=room_leaks, passage_leaks=passage_leaks)


def all_things():
    """All the webs and lines above."""
    return [web_of(sample) for sample in WEBS] + [Line(shares) for shares in LINES]


def shares_of(readings):
    """The shares of readings up to the first 0 or 1, found by walks over lines with the ends 0 and 1."""
    shares = []
    for tick in range(1, len(readings)):
        low, high = walk(shares + [0], tick)[tick], walk(shares + [1], tick)[tick]
        shares.append((theirs(readings[tick]) - low) / (high - low))
        if shares[-1] in (0, 1):
            break
    return shares


def range_behind(shares, tick):
    """The least and the greatest reading at the tick behind readings with these shares."""
    if shares and shares[-1] in (0, 1):
        return (walk(shares, tick)[tick],) * 2
    return walk(shares + [0], tick)[tick], walk(shares + [1], tick)[tick]


def lists_of_readings():
    """The readings of all webs and lines up to the tick 12."""
    found = [[amounts[0] for amounts, lost in play(*sample, ticks=12)] for sample in WEBS]
    return [[ours(reading) for reading in readings] for readings in found + [walk(shares, 12) for shares in LINES]]


class PlainCase(unittest.TestCase):
    def check_number(self, found, expected):
        """The found value is a Fraction, and the expected number."""
        self.assertIs(found.__class__, Fraction)
        self.assertEqual(theirs(found), theirs(expected))

    def check_numbers(self, found, expected):
        """The found value is a list of Fractions, and the expected numbers."""
        self.assertIs(found.__class__, list)
        self.assertEqual(all_theirs(found), all_theirs(expected))
        for number in found:
            self.assertIs(number.__class__, Fraction)

    def check_error(self, kind, values, function, *arguments, **named):
        """The call raises an error of this very class with these values as its attributes."""
        with self.assertRaises(kind) as caught:
            function(*arguments, **named)
        self.assertIs(caught.exception.__class__, kind)
        self.assertEqual(vars(caught.exception), values)
