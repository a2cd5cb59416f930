"""Webs and lines, compared for all ticks at once. A thing is a Web or a Line."""

from tracerline.lines import Line
from tracerline.reader import explained


def line_of(thing):
    """The only line that has the readings of the thing at every tick."""
    if isinstance(thing, Line):
        return thing
    by_rooms = 2 * thing.rooms
    by_passages = 2 * thing.passages + 1
    return explained(thing.readings(by_rooms if by_rooms < by_passages else by_passages))


def parting(thing, other):
    """The first tick at which the readings of the two things differ, None if there is none."""
    return _lines_part(line_of(thing), line_of(other))


def alike(thing, other):
    """Whether the readings of the two things are equal at every tick."""
    return line_of(thing) == line_of(other)


def groups(things):
    """Lists of the indices of the things that are alike."""
    found = []
    leaders = []
    for index, thing in enumerate(things):
        line = line_of(thing)
        place = _place_of(line, leaders)
        if place == len(leaders):
            leaders.append(line)
            found.append([])
        found[place].append(index)
    return found


def last_needed(thing):
    """The first tick up to which the readings of the thing tell all later ones."""
    return len(line_of(thing))


def seen_apart(things):
    """The least tick up to which all things of the list differ that are not alike; 0 if all are alike."""
    latest = 0
    lines = [line_of(thing) for thing in things]
    for index, line in enumerate(lines):
        for other in lines[:index]:
            tick = _lines_part(line, other)
            if tick is not None and tick > latest:
                latest = tick
    return latest


def _lines_part(line, other):
    """The first tick at which the readings of the two lines differ, None if there is none."""
    # The share k decides the reading at the tick k, and no line is the beginning of another one.
    for place, (share, another) in enumerate(zip(line.shares(), other.shares())):
        if share != another:
            return place + 1
    return None


def _place_of(line, lines):
    """The index of the first of the lines that equals the line, or their number if none does."""
    for place, other in enumerate(lines):
        if line == other:
            return place
    return len(lines)
