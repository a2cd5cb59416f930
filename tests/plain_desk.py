"""A desk that does everything anew from plain lists, for the tests to compare with."""

import copy
import fractions

from tests.plain import all_theirs, play, range_behind, shares_of, theirs, walk

TICKS = 41


class Supposed:
    """A web or a line, by its sample or its shares, with its readings worked out here."""

    def __init__(self, thing, readings, text):
        self.thing = thing
        self.readings = readings
        self.text = text


def supposed_line(line, shares):
    return Supposed(line, walk(shares, TICKS), "line " + " ".join(str(share) for share in all_theirs(shares)))


def supposed_web(web, sample):
    readings = [amounts[0] for amounts, lost in play(*sample, ticks=TICKS)]
    rows = "/".join(",".join(str(width) for width in row) or "-" for row in sample[0])
    leaks = [",".join(str(leak) for leak in leaks or [0] * many) or "-"
             for leaks, many in ((sample[1], len(sample[0])), (sample[2], len(sample[0][0])))]
    return Supposed(web, readings, " ".join(["web", rows] + leaks))


class PlainDesk:
    """Each change is made on a deep copy; errors are tuples (name of the class, values)."""

    def __init__(self):
        self.now = {}
        self.undone = []
        self.done = []

    def change(self, action, *arguments):
        """The result of an action, or its error, which changes nothing."""
        before = copy.deepcopy(self.now)
        error, result = getattr(self, action)(*arguments)
        if error:
            self.now = before
            return error, None
        self.done.append(before)
        self.undone = []
        return None, result

    def add_station(self, name):
        if not good_name(name):
            return ("BadName", [name]), None
        if name in self.now:
            return ("TakenName", [name]), None
        self.now[name] = ([fractions.Fraction(1)], [])
        return None, None

    def suppose(self, name, label, supposed):
        if name not in self.now:
            return ("UnknownName", [name]), None
        readings, guesses = self.now[name]
        if not good_name(label):
            return ("BadName", [label]), None
        if label in [guess[0] for guess in guesses]:
            return ("TakenName", [label]), None
        for tick, reading in enumerate(readings):
            if supposed.readings[tick] != reading:
                return ("Misfit", [tick]), None
        guesses.append([label, supposed, None])
        return None, None

    def drop(self, name, label):
        if name not in self.now:
            return ("UnknownName", [name]), None
        readings, guesses = self.now[name]
        kept = [guess for guess in guesses if guess[0] != label]
        if len(kept) == len(guesses):
            return ("UnknownName", [label]), None
        self.now[name] = (readings, kept)
        return None, None

    def note(self, name, reading):
        if name not in self.now:
            return ("UnknownName", [name]), None
        readings, guesses = self.now[name]
        if len(readings) == 13:
            return ("FullReader", [12]), None
        tick = len(readings)
        least, greatest = range_behind(shares_of(readings), tick)
        if not least <= theirs(reading) <= greatest:
            return ("Barred", [tick]), None
        readings.append(theirs(reading))
        struck = [guess for guess in guesses if guess[2] is None and guess[1].readings[tick] != readings[tick]]
        for guess in struck:
            guess[2] = tick
        return None, [guess[0] for guess in struck]

    def take_all(self, notes):
        found = []
        for name, reading in notes:
            error, struck = self.note(name, reading)
            if error:
                return error, None
            found += [(name, label) for label in struck]
        return None, found

    def step(self, one, other):
        if not one:
            return ("NothingLeft", []), None
        other.append(self.now)
        self.now = one.pop()
        return None, None

    def undo(self):
        return self.step(self.done, self.undone)

    def redo(self):
        return self.step(self.undone, self.done)

    def standing(self, name):
        return [guess for guess in self.now[name][1] if guess[2] is None]

    def telling(self, name):
        things = [guess[1].readings for guess in self.standing(name)]
        for tick in range(len(self.now[name][0]), TICKS + 1):
            if len({readings[tick] for readings in things}) > 1:
                return tick
        return None

    def agreed(self, name, tick):
        found = {guess[1].readings[tick] for guess in self.standing(name)}
        return found.pop() if len(found) == 1 else None

    def text(self):
        lines = []
        for name, (readings, guesses) in self.now.items():
            lines.append("station " + name)
            lines += [" ".join(["suppose", name, label, supposed.text]) for label, supposed, _ in guesses]
            lines += [f"note {name} {reading}" for reading in readings[1:]]
        return "\n".join(lines)


def good_name(name):
    return 1 <= len(name) <= 8 and all("a" <= character <= "z" for character in name)
