"""A desk of stations, whose changes can be taken back and made again."""

from tracerline.booklines import station_lines
from tracerline.errors import BadName, NothingLeft, TakenName, UnknownName
from tracerline.later import later
from tracerline.letters import is_short_word
from tracerline.stations import new_station


class Desk:
    """Keeps the readings of several stations, and suppositions about their webs."""

    def __init__(self):
        # A dict of stations never changes once it stands here, and neither does a station. So a change keeps the dict
        # that was there before it, and taking it back keeps the one behind it, for redo.
        self._stations = {}
        self._before = []
        self._behind = []

    def __len__(self):
        return len(self._stations)

    def __contains__(self, name):
        return name in self._stations

    def add_station(self, name):
        """Add a station with the single reading 1. Raises BadName and TakenName."""
        if not is_short_word(name):
            raise BadName(name)
        if name in self._stations:
            raise TakenName(name)
        self._change(name, new_station())

    def stations(self):
        """The names of the stations in the order in which they were added."""
        return list(self._stations)

    def readings(self, name):
        """The readings of the station."""
        return self._station(name).readings()

    def between(self, name, tick):
        """The least and the greatest reading at the tick of all webs that show the readings of the station."""
        return later(self.readings(name), tick)

    def suppose(self, name, label, thing):
        """Add a supposition to the station. Raises BadName, TakenName and Misfit(tick)."""
        self._change(name, self._station(name).supposed(label, thing))

    def standing(self, name):
        """The labels of the suppositions of the station that stand."""
        return self._station(name).standing()

    def struck(self, name):
        """The tuples (label, tick) of the suppositions of the station that are struck."""
        return self._station(name).struck()

    def drop(self, name, label):
        """Remove a supposition of the station, standing or struck. Raises UnknownName(label)."""
        self._change(name, self._station(name).dropped(label))

    def note(self, name, reading):
        """Add the next reading; returns the labels of the suppositions that it strikes.

        Raises FullReader and Barred.
        """
        station = self._station(name).noted(reading)
        self._change(name, station)
        return station.struck_last()

    def take_all(self, notes):
        """Note all the tuples (name, reading) as one change; returns the tuples (name, label) that are struck."""
        stations = dict(self._stations)
        found = []
        for name, reading in notes:
            station = _station_of(stations, name).noted(reading)
            stations[name] = station
            found = found + [(name, label) for label in station.struck_last()]
        self._change_all(stations)
        return found

    def telling(self, name):
        """The first tick to come at which two suppositions that stand differ, None if there is none."""
        return self._station(name).telling()

    def agreed(self, name, tick):
        """The reading at the tick of all suppositions that stand, None if they do not agree. Raises BadTick(tick)."""
        return self._station(name).agreed(tick)

    def undo(self):
        """Take back the latest change that has not been taken back. Raises NothingLeft."""
        if not self._before:
            raise NothingLeft()
        self._behind.append(self._stations)
        self._stations = self._before.pop()

    def redo(self):
        """Make the change again that was taken back last. Raises NothingLeft."""
        if not self._behind:
            raise NothingLeft()
        self._before.append(self._stations)
        self._stations = self._behind.pop()

    def forget(self):
        """Forget all changes: none of them can be taken back or made again."""
        self._before = []
        self._behind = []

    def text(self):
        """The lines that make the desk, as one text."""
        lines = []
        for name, station in self._stations.items():
            lines = lines + station_lines(name, station)
        return "\n".join(lines)

    def _station(self, name):
        """The station with this name. Raises UnknownName(name)."""
        return _station_of(self._stations, name)

    def _change(self, name, station):
        """Put a station in the place of the one with this name, or behind all others."""
        stations = dict(self._stations)
        stations[name] = station
        self._change_all(stations)

    def _change_all(self, stations):
        """Put these stations in the place of all others."""
        self._before.append(self._stations)
        self._behind = []
        self._stations = stations


def _station_of(stations, name):
    """The station with this name. Raises UnknownName(name)."""
    if name not in stations:
        raise UnknownName(name)
    return stations[name]
