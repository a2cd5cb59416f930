"""What a list of readings tells about the readings at later ticks, and about all of them together."""

from tracerline.errors import BadShare, OutOfRange
from tracerline.lineops import mixed
from tracerline.reader import explained, reader_of


def later(readings, tick):
    """The least and the greatest reading at the tick of all webs that show the readings.

    Raises the errors of explained, and then BadTick(tick).
    """
    low_line, high_line = _end_lines(readings)
    return low_line(tick), high_line(tick)


def reached(readings, tick, value):
    """A line that shows the readings and has this value at the tick.

    Raises the errors of later, and then OutOfRange(least, greatest) with the two numbers of later.
    """
    low_line, high_line = _end_lines(readings)
    least, greatest = low_line(tick), high_line(tick)
    if value < least or value > greatest:
        raise OutOfRange(least, greatest)
    if least == greatest:
        return low_line
    return mixed((value - least).over(greatest - least), high_line, low_line)


def worth_between(readings, keep):
    """The least and the greatest worth of all webs that show the readings. Raises BadShare(keep)."""
    if keep < 0 or keep >= 1:
        raise BadShare(keep)
    low_line, high_line = _end_lines(readings)
    return low_line.worth(keep), high_line.worth(keep)


def limit_between(readings):
    """The least and the greatest number that the readings of a web approach if it shows the readings."""
    low_line, high_line = _end_lines(readings)
    return low_line.limit(), high_line.limit()


def fewest(readings):
    """The least number of rooms and the least number of passages of all webs that show the readings."""
    line = explained(readings)
    return line.rooms, line.passages


def _end_lines(readings):
    """The lines of the readings with the end 0 and with the end 1. Raises BadReadings and Barred."""
    reader = reader_of(readings)
    return reader.as_line(end=0), reader.as_line(end=1)
