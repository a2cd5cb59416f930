"""Desks that are read from texts, line by line."""

from tracerline.desk import Desk
from tracerline.errors import BadText
from tracerline.exact import is_numeral, read_fraction
from tracerline.letters import is_short_word
from tracerline.lines import Line
from tracerline.webs import Web


class Words:
    """The words of a line, which are taken one after another. Every method raises BadText at a wrong word."""

    def __init__(self, number, line):
        self._number = number
        self._words = line.split(" ")
        self._place = 0
        # The column of the latest word, and that behind it and the space that follows.
        self._column = 1
        self._next_column = 1

    def wrong(self):
        """Raise BadText at the latest word."""
        raise BadText(self._number, self._column)

    def left(self):
        """Whether there is another word."""
        return self._place < len(self._words)

    def take(self):
        """The next word, whatever it is."""
        if not self.left():
            # There is no space behind the last word, where the next one would begin.
            raise BadText(self._number, self._next_column - 1)
        word = self._words[self._place]
        self._place = self._place + 1
        self._column = self._next_column
        self._next_column = self._column + len(word) + 1
        return word

    def take_name(self):
        """The next word as a desk name."""
        word = self.take()
        if not is_short_word(word):
            self.wrong()
        return word

    def take_fraction(self):
        """The next word as a Fraction."""
        word = self.take()
        try:
            return read_fraction(word)
        except BadText:
            raise BadText(self._number, self._column)

    def take_numbers(self):
        """The next word as a list of integers."""
        return self._numbers(self.take())

    def take_numbers_or_none(self):
        """The next word as a list of integers, which may be empty."""
        return self._numbers_or_none(self.take())

    def take_rows(self):
        """The next word as a list of lists of integers, which may be empty."""
        return [self._numbers_or_none(part) for part in self.take().split("/")]

    def finish(self):
        """Raise BadText if there is another word."""
        if self.left():
            self.take()
            self.wrong()

    def _numbers(self, text):
        """The integers that numerals with commas between them write."""
        parts = text.split(",")
        if not all([is_numeral(part) for part in parts]):
            self.wrong()
        return [int(part) for part in parts]

    def _numbers_or_none(self, text):
        """The same, or an empty list for the text -."""
        if text == "-":
            return []
        return self._numbers(text)


def read_desk(text):
    """The desk that the lines make. Raises BadText(line, column), and what the methods and constructors raise."""
    desk = Desk()
    lines = text.split("\n") if text else []
    for number, line in enumerate(lines, start=1):
        _do_line(desk, Words(number, line))
    desk.forget()
    return desk


def _do_line(desk, words):
    """Read a line and do what it says."""
    first = words.take()
    if first == "station":
        _add_station(desk, words)
    elif first == "suppose":
        _suppose(desk, words)
    elif first == "note":
        _note(desk, words)
    else:
        words.wrong()


def _add_station(desk, words):
    """Read the rest of a line that adds a station, and add it."""
    name = words.take_name()
    words.finish()
    desk.add_station(name)


def _suppose(desk, words):
    """Read the rest of a line that adds a supposition, and add it."""
    name, label = words.take_name(), words.take_name()
    desk.suppose(name, label, _read_thing(words))


def _note(desk, words):
    """Read the rest of a line that notes a reading, and note it."""
    name, reading = words.take_name(), words.take_fraction()
    words.finish()
    desk.note(name, reading)


def _read_thing(words):
    """The line or the web of which the rest of a line tells."""
    kind = words.take()
    if kind == "line":
        return _read_line(words)
    if kind != "web":
        words.wrong()
    return _read_web(words)


def _read_line(words):
    """The line of the shares in the rest of a line."""
    shares = [words.take_fraction()]
    while words.left():
        shares.append(words.take_fraction())
    return Line(shares)


def _read_web(words):
    """The web of the widths and leaks in the rest of a line."""
    widths = words.take_rows()
    room_leaks, passage_leaks = words.take_numbers(), words.take_numbers_or_none()
    words.finish()
    return Web(widths, room_leaks=room_leaks, passage_leaks=passage_leaks)
