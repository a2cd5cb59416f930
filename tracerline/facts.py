"""Facts about a web beside its readings, and what readings tell together with them."""

from tracerline.errors import BadWeb, TracerError
from tracerline.exact import Fraction
from tracerline.reader import reader_of


class Clash(TracerError):
    """No web with the facts shows the readings."""


class Facts:
    """What is known about a web: None where nothing is known."""

    def __init__(self, *, rooms=None, passages=None, leaks=None):
        if rooms is not None and rooms < 1:
            raise BadWeb("rooms")
        if passages is not None and passages < 0:
            raise BadWeb("passages")
        self.rooms = rooms
        self.passages = passages
        self.leaks = leaks


def facts_of(web):
    """The facts of the web: its numbers of rooms and passages, and whether anything is lost in the end."""
    return Facts(rooms=web.rooms, passages=web.passages, leaks=web.lost(web.rooms) > 0)


def fit(readings, facts):
    """Whether a web has the facts and shows the readings. Raises BadReadings and Barred."""
    return _can_be(reader_of(readings), facts)


def later_with(readings, tick, facts):
    """The least and the greatest reading at the tick of all webs with the facts, and whether a web shows each of them.

    Raises BadReadings, Barred, BadTick(tick) and Clash.
    """
    reader = reader_of(readings)
    low_line, high_line = reader.as_line(end=0), reader.as_line(end=1)
    least, greatest = low_line(tick), high_line(tick)
    _check_facts(reader, facts)
    if tick <= reader.last_tick or reader.settled:
        return least, greatest, True, True
    zero, one, between = _next_shares(reader, facts)
    if between or (zero and one):
        return least, greatest, zero, one
    only = least if zero else greatest
    return only, only, True, True


def settled_by(readings, facts):
    """Whether all webs that have the facts and show the readings show the same ones at all ticks.

    Raises BadReadings, Barred and Clash.
    """
    reader = reader_of(readings)
    _check_facts(reader, facts)
    if reader.settled:
        return True
    zero, one, between = _next_shares(reader, facts)
    return not (between or (zero and one))


def least_web(readings, facts):
    """A web with the fewest rooms and passages of all that have the facts and show the readings.

    Raises BadReadings, Barred and Clash.
    """
    reader = reader_of(readings)
    _check_facts(reader, facts)
    return reader.as_line(end=1 if facts.leaks is False else 0).web()


def least_total(readings):
    """The least total of all rooms over that of room 0, of all webs that show the readings and lose nothing.

    Raises BadReadings, Barred and Clash.
    """
    reader = reader_of(readings)
    _check_facts(reader, Facts(leaks=False))
    return Fraction(1).over(reader.as_line(end=1).limit())


def forecast(readings, ticks):
    """A text with the least and the greatest reading at the ticks 0 to ticks, a line for each.

    Raises BadReadings, Barred and BadTick(ticks).
    """
    reader = reader_of(readings)
    pairs = list(zip(reader.as_line(end=0).readings(ticks), reader.as_line(end=1).readings(ticks)))
    return "\n".join([_forecast_line(tick, least, greatest) for tick, (least, greatest) in enumerate(pairs)])


def _forecast_line(tick, least, greatest):
    """The line of a tick in a forecast."""
    return f"{str(tick):>4} {str(least):>24} {str(greatest):>24}"


def _can_be(reader, facts):
    """Whether a web has the facts and shows the readings of the reader."""
    many = len(reader.shares())
    if not reader.settled:
        return _fits(many + 1 if facts.leaks is False else many, facts)
    end = reader.as_line().end
    return _fits(many - 1 + end, facts) and (facts.leaks is None or facts.leaks == (end == 0))


def _check_facts(reader, facts):
    """Raise Clash if no web has the facts and shows the readings of the reader."""
    if not _can_be(reader, facts):
        raise Clash()


def _fits(last_node, facts):
    """Whether a line with this last node has no more rooms and passages than the facts say."""
    rooms, passages = last_node // 2 + 1, (last_node + 1) // 2
    return (facts.rooms is None or rooms <= facts.rooms) and (facts.passages is None or passages <= facts.passages)


def _next_shares(reader, facts):
    """Whether the next share of the reader, which is not settled, can be 0, can be 1 and can be between them."""
    many = len(reader.shares())
    zero = _fits(many, facts) and facts.leaks is not False
    one = _fits(many + 1, facts) and facts.leaks is not True
    between = _fits(many + 2 if facts.leaks is False else many + 1, facts)
    return zero, one, between
