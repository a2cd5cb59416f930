"""One-way webs: rooms between which everything moves at once, and the first returns of readings."""

from tracerline.errors import BadReadings, BadTick, BadWeb, Barred, NoWeb
from tracerline.exact import Fraction, as_fraction
from tracerline.flows import scaled_rows, sent
from tracerline.reader import reader_of
from tracerline.returns import come_again, readings_of, returns_of


class OneWay:
    """Rooms, and a table with the parts of what each room holds that go to each room in a tick."""

    def __init__(self, table):
        rows = [[as_fraction(part) for part in row] for row in table]
        _check_rows(rows)
        self.rooms = len(rows)
        self._rows = rows
        self._parts, self._scale = scaled_rows(rows)

    def table(self):
        """The parts as lists of Fractions, one for each room; all lists are new."""
        return [list(row) for row in self._rows]

    def readings(self, ticks):
        """The amounts in room 0 after 0, 1, .., ticks ticks if 1 was in room 0. Raises BadTick(ticks)."""
        if ticks < 0:
            raise BadTick(ticks)
        tops = [1] + [0] * (self.rooms - 1)
        bottom = 1
        readings = [Fraction(1)]
        for _ in range(ticks):
            tops = sent(tops, self._parts, self.rooms)
            bottom = bottom * self._scale
            readings.append(Fraction(tops[0], bottom))
        return readings


def one_way_of(web):
    """The one-way web with the rooms of the web, which moves in a tick what the web moves."""
    return OneWay([web.after(1, start=room) for room in range(web.rooms)])


def first_returns(readings):
    """The first returns f(0) = 0, f(1), .. of the readings. Raises BadReadings."""
    if len(readings) == 0 or readings[0] != 1:
        raise BadReadings()
    return returns_of(readings)


def returned(returns):
    """The readings r(0) = 1, r(1), .. with these first returns. Raises BadReadings."""
    _check_first(returns)
    return readings_of(returns)


def delay_row(returns):
    """A one-way web with these first returns and no later ones. Raises BadReadings and NoWeb(tick)."""
    _check_first(returns)
    _left_of(returns)
    many = max(1, len(returns) - 1)
    table = [[0] * many for _ in range(many)]
    for delay, part in enumerate(returns[1:]):
        table[0][delay] = part
    for room in range(1, many):
        table[room][room - 1] = 1
    return OneWay(table)


def verdict(readings):
    """The kind of web that shows the readings: "two-way", "one-way" or "none". Raises BadReadings."""
    returns = first_returns(readings)
    try:
        reader_of(readings)
    except Barred:
        return _verdict_of_barred(returns)
    return "two-way"


def next_one_way(readings):
    """The least and the greatest next reading of all one-way webs that show the readings.

    Raises BadReadings and NoWeb(tick).
    """
    returns = first_returns(readings)
    left = _left_of(returns)
    least = come_again(returns, readings, len(readings))
    return least, least + left


def _verdict_of_barred(returns):
    """The verdict over readings with these first returns that no web of rooms and passages shows."""
    try:
        _left_of(returns)
    except NoWeb:
        return "none"
    return "one-way"


def _left_of(returns):
    """1 minus the sum of the first returns. Raises NoWeb with the first tick at which no one-way web has them."""
    left = Fraction(1)
    for tick, part in enumerate(returns[1:], start=1):
        left = left - part
        if part < 0 or left < 0:
            raise NoWeb(tick)
    return left


def _check_first(returns):
    """Raise BadReadings if the list is empty or does not begin with 0."""
    if len(returns) == 0 or returns[0] != 0:
        raise BadReadings()


def _check_rows(rows):
    """Raise BadWeb if the rows are not those of the table of a one-way web."""
    if not rows:
        raise BadWeb("rooms")
    for row in rows:
        if len(row) != len(rows):
            raise BadWeb("uneven")
    if any([part < 0 for row in rows for part in row]):
        raise BadWeb("negative")
    for row in rows:
        if _total(row) > 1:
            raise BadWeb("sum")


def _total(parts):
    """The sum of the Fractions."""
    total = Fraction(0)
    for part in parts:
        total = total + part
    return total
