"""Stations of a desk: the readings of one room, and what is supposed about its web."""

from tracerline.alike import parting
from tracerline.errors import BadName, BadTick, Misfit, TakenName, UnknownName
from tracerline.letters import is_short_word
from tracerline.reader import Reader


class Supposition:
    """A label, the web or line that is supposed, and the tick that struck it, None while it stands."""

    def __init__(self, label, thing, struck_at):
        self.label = label
        self.thing = thing
        self.struck_at = struck_at


class Station:
    """A station as it is between two changes. It never changes: what changes something returns another station."""

    def __init__(self, reader, suppositions):
        self._reader = reader
        self._suppositions = suppositions

    def readings(self):
        """The readings from the tick 0 on, in a new list."""
        return self._reader.readings()

    def suppositions(self):
        """The suppositions, standing or struck, in the order in which they were supposed."""
        return list(self._suppositions)

    def standing(self):
        """The labels of the suppositions that stand."""
        return [supposition.label for supposition in self._suppositions if supposition.struck_at is None]

    def struck(self):
        """The labels of the suppositions that are struck, with the ticks that struck them."""
        pairs = [(supposition.label, supposition.struck_at) for supposition in self._suppositions]
        return [(label, tick) for label, tick in pairs if tick is not None]

    def struck_last(self):
        """The labels of the suppositions that the latest reading struck."""
        return [label for label, tick in self.struck() if tick == self._reader.last_tick]

    def supposed(self, label, thing):
        """The station with a further supposition. Raises BadName, TakenName and Misfit(tick)."""
        if not is_short_word(label):
            raise BadName(label)
        if label in self._labels():
            raise TakenName(label)
        pairs = list(zip(thing.readings(self._reader.last_tick), self.readings()))
        for tick, (reading, read) in enumerate(pairs):
            if reading != read:
                raise Misfit(tick)
        return Station(self._reader, self._suppositions + [Supposition(label, thing, None)])

    def dropped(self, label):
        """The station without the supposition of this label. Raises UnknownName(label)."""
        if label not in self._labels():
            raise UnknownName(label)
        kept = [supposition for supposition in self._suppositions if supposition.label != label]
        return Station(self._reader, kept)

    def noted(self, reading):
        """The station with the next reading. Raises FullReader and Barred."""
        reader = self._reader.copied()
        reader.take(reading)
        tick = reader.last_tick
        return Station(reader, [_checked(supposition, tick, reading) for supposition in self._suppositions])

    def telling(self):
        """The first tick at which two of the suppositions that stand differ, None if there is none."""
        things = self._standing_things()
        first = None
        # Where two of them differ, one of the two differs from the first thing.
        for thing in things[1:]:
            tick = parting(things[0], thing)
            if first is None or (tick is not None and tick < first):
                first = tick
        return first

    def agreed(self, tick):
        """The reading at the tick of all suppositions that stand, None if they do not agree. Raises BadTick(tick)."""
        if tick < 0:
            raise BadTick(tick)
        readings = [_reading_at(thing, tick) for thing in self._standing_things()]
        if not readings or any([reading != readings[0] for reading in readings]):
            return None
        return readings[0]

    def _labels(self):
        """The labels of all suppositions."""
        return [supposition.label for supposition in self._suppositions]

    def _standing_things(self):
        """The webs and lines of the suppositions that stand."""
        return [supposition.thing for supposition in self._suppositions if supposition.struck_at is None]


def new_station():
    """A station with the single reading 1, at the tick 0."""
    return Station(Reader(), [])


def _checked(supposition, tick, reading):
    """The supposition behind a reading at the tick: struck if it stands and the reading differs."""
    if supposition.struck_at is not None or _reading_at(supposition.thing, tick) == reading:
        return supposition
    return Supposition(supposition.label, supposition.thing, tick)


def _reading_at(thing, tick):
    """The reading of a web or a line at the tick."""
    return thing.readings(tick)[tick]
