"""Readings that are taken one by one."""

from tracerline.chains import chain_of, half_of, next_link
from tracerline.errors import BadReadings, BadShare, Barred, FullReader, NothingLeft
from tracerline.exact import Fraction, as_fraction
from tracerline.lines import Line
from tracerline.weights import bounding_weights

MOST_READINGS = 12


class Reader:
    """Takes readings and knows the range of the next one."""

    def __init__(self, *, most=MOST_READINGS):
        self._most = most
        self._readings = [Fraction(1)]
        self._shares = []
        # The chain of the shares grows with them; the lists below have one entry for each reading.
        self._chain = chain_of([])
        self._lows = [Fraction(0)]
        self._gaps = [Fraction(1)]

    @property
    def last_tick(self):
        """The tick of the latest reading."""
        return len(self._readings) - 1

    @property
    def low(self):
        """The least possible next reading."""
        return self._lows[-1]

    @property
    def high(self):
        """The greatest possible next reading."""
        return self._lows[-1] + self._gaps[-1]

    @property
    def gap(self):
        """The difference between the greatest and the least possible next reading."""
        return self._gaps[-1]

    @property
    def settled(self):
        """Whether there is only one possible next reading."""
        return self._gaps[-1] == 0

    def __contains__(self, value):
        return self._lows[-1] <= value and value <= self._lows[-1] + self._gaps[-1]

    def take(self, reading):
        """Take the next reading. Returns the new share, or None if the readings were settled before."""
        if self.last_tick >= self._most:
            raise FullReader(self._most)
        value = as_fraction(reading)
        above = value - self.low
        if above < 0 or above > self.gap:
            raise Barred(self.last_tick + 1, self._barring(above))
        share = None
        next_gap = self.gap
        if not self.settled:
            share = above.over(self.gap)
            # The gap is multiplied by the share and by 1 - share.
            next_gap = above * (1 - share)
            self._add_share(share)
        self._readings.append(value)
        self._lows.append(self._next_low())
        self._gaps.append(next_gap)
        return share

    def take_back(self):
        """Remove the latest reading and return it. Raises NothingLeft if only that of the tick 0 is there."""
        if self.last_tick == 0:
            raise NothingLeft()
        # Readings behind a share that is 0 or 1 have no share of their own.
        if len(self._shares) == self.last_tick:
            self._shares.pop()
            self._chain.pop()
        self._lows.pop()
        self._gaps.pop()
        return self._readings.pop()

    def copied(self):
        """Another reader that has taken the same readings."""
        other = Reader(most=self._most)
        other._readings = list(self._readings)
        other._shares = list(self._shares)
        other._chain = list(self._chain)
        other._lows = list(self._lows)
        other._gaps = list(self._gaps)
        return other

    def shares(self):
        """The shares up to the first 0 or 1, in a new list."""
        return list(self._shares)

    def readings(self):
        """The readings from the tick 0 on, in a new list."""
        return list(self._readings)

    def as_line(self, *, end=0):
        """The line of the shares, and of the end if the readings are not settled. Raises BadShare(end)."""
        _check_end(end)
        return Line.cut(self._shares + [end])

    def _add_share(self, share):
        """Add a share and its link of the chain."""
        onward = 1 - self._shares[-1] if self._shares else 1
        self._chain.append(next_link(self._chain, share * onward))
        self._shares.append(share)

    def _next_low(self):
        """The least next reading: with it the sum of the latest readings over the half of the chain is 0."""
        half = half_of(self._chain)
        latest = self._readings[len(self._readings) - half.degree:]
        return -half.sum_over(latest + [0])

    def _barring(self, above):
        """Weights that bar the readings together with a next one that is so far above the least one: out of range."""
        weights = bounding_weights(self._shares, 0 if above < 0 else 1)
        while weights.degree <= self.last_tick:
            weights = weights.times_x()
        return weights


def explained(readings, *, end=0):
    """The line of all these readings and the end. Raises BadReadings, BadShare(end) and Barred."""
    _check_first(readings)
    _check_end(end)
    return reader_of(readings).as_line(end=end)


def reader_of(readings):
    """A reader that has taken all these readings. Raises BadReadings and Barred."""
    _check_first(readings)
    reader = Reader(most=len(readings))
    for reading in readings[1:]:
        reader.take(reading)
    return reader


def _check_first(readings):
    """Raise BadReadings if the list is empty or does not begin with 1."""
    if len(readings) == 0 or readings[0] != 1:
        raise BadReadings()


def _check_end(end):
    """Raise BadShare if the end is neither 0 nor 1."""
    if end != 0 and end != 1:
        raise BadShare(end)
