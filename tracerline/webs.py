"""Webs of rooms and passages, and the amounts in their rooms."""

from tracerline.errors import BadRoom, BadTick, BadWeb
from tracerline.exact import Fraction
from tracerline.flows import scaled_rows, sent


class Web:
    """Rooms and passages with joints of integer widths between them; what flows into leaks is lost."""

    def __init__(self, widths, *, room_leaks=(), passage_leaks=()):
        rows = [list(row) for row in widths]
        _check_widths(rows)
        self.rooms = len(rows)
        self.passages = len(rows[0])
        self._widths = rows
        columns = [[row[passage] for row in rows] for passage in range(self.passages)]
        from_rooms = _all_leaks(room_leaks, self.rooms, "room_leaks")
        from_passages = _all_leaks(passage_leaks, self.passages, "passage_leaks")
        self._room_totals = _totals(rows, from_rooms, "room")
        self._passage_totals = _totals(columns, from_passages, "passage")
        self._room_parts, room_scale = scaled_rows(_parts(rows, self._room_totals))
        self._passage_parts, passage_scale = scaled_rows(_parts(columns, self._passage_totals))
        # Every tick multiplies the bottom of the amounts by this number.
        self._scale = room_scale * passage_scale

    @classmethod
    def shut(cls, widths):
        """The web with these widths and no leaks."""
        return cls(widths)

    def width(self, room, passage):
        """The width of the joint between a room and a passage."""
        return self._widths[room][passage]

    def room_total(self, room):
        """The sum of the widths and the leak of a room."""
        return self._room_totals[room]

    def passage_total(self, passage):
        """The sum of the widths and the leak of a passage."""
        return self._passage_totals[passage]

    def after(self, ticks, *, start=0):
        """The amounts in the rooms after so many ticks if 1 was in the room start and nothing elsewhere."""
        _check_ticks(ticks)
        self._check_room(start)
        tops = self._first_tops(start)
        bottom = 1
        for _ in range(ticks):
            tops = self._next_tops(tops)
            bottom = bottom * self._scale
        return [Fraction(top, bottom) for top in tops]

    def lost(self, ticks, *, start=0):
        """What has been lost after so many ticks if 1 was in the room start and nothing elsewhere."""
        left = Fraction(1)
        for amount in self.after(ticks, start=start):
            left = left - amount
        return left

    def moved(self, room, other, ticks):
        """The amount in the room other after so many ticks if 1 was in the room and nothing elsewhere."""
        _check_ticks(ticks)
        self._check_room(room)
        self._check_room(other)
        return self.after(ticks, start=room)[other]

    def readings(self, ticks):
        """The amounts in room 0 after 0, 1, .., ticks ticks if 1 was in room 0 and nothing elsewhere."""
        return list(self.ticking(ticks))

    def ticking(self, ticks):
        """The same amounts as those of readings, one after another."""
        _check_ticks(ticks)
        tops = self._first_tops(0)
        bottom = 1
        yield Fraction(tops[0], bottom)
        for _ in range(ticks):
            tops = self._next_tops(tops)
            bottom = bottom * self._scale
            yield Fraction(tops[0], bottom)

    def _check_room(self, room):
        """Raise BadRoom if there is no room of this number."""
        if room < 0 or room >= self.rooms:
            raise BadRoom(room)

    def _first_tops(self, start):
        """The tops of the amounts at the tick 0, with the bottom 1."""
        tops = [0] * self.rooms
        tops[start] = 1
        return tops

    def _next_tops(self, tops):
        """The tops of the amounts one tick later, with a bottom that is the scale times as great."""
        held = sent(tops, self._room_parts, self.passages)
        return sent(held, self._passage_parts, self.rooms)


def _check_ticks(ticks):
    """Raise BadTick if the number of ticks is negative."""
    if ticks < 0:
        raise BadTick(ticks)


def _check_widths(rows):
    """Raise BadWeb if the rows are not those of a web."""
    if not rows:
        raise BadWeb("rooms")
    for row in rows:
        if len(row) != len(rows[0]):
            raise BadWeb("uneven")
    for row in rows:
        if _has_negative(row):
            raise BadWeb("negative")


def _has_negative(numbers):
    """Whether one of the integers is below 0."""
    return any([number < 0 for number in numbers])


def _all_leaks(leaks, many, reason):
    """The leaks, one for each of so many rooms or passages. Raises BadWeb(reason) if they are not such leaks."""
    if len(leaks) == 0:
        return [0] * many
    if len(leaks) != many or _has_negative(leaks):
        raise BadWeb(reason)
    return list(leaks)


def _totals(rows, leaks, reason):
    """The sums of the rows with their leaks. Raises BadWeb(reason) if one of them is 0."""
    totals = [sum(row) + leak for row, leak in zip(rows, leaks)]
    if 0 in totals:
        raise BadWeb(reason)
    return totals


def _parts(rows, totals):
    """The parts width / total, a row for each row of widths."""
    return [[Fraction(width, total) for width in row] for row, total in zip(rows, totals)]
