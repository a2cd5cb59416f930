"""The lines of the text of a desk."""

from tracerline.lines import Line


def station_lines(name, station):
    """The lines of a station: its own one, its suppositions, and its readings behind the tick 0."""
    lines = [f"station {name}"]
    for supposition in station.suppositions():
        words = _thing_words(supposition.thing)
        lines.append(f"suppose {name} {supposition.label} {words}")
    for reading in station.readings()[1:]:
        lines.append(f"note {name} {str(reading)}")
    return lines


def _thing_words(thing):
    """The words that describe a line or a web."""
    if isinstance(thing, Line):
        return " ".join(["line"] + [str(share) for share in thing.shares()])
    rooms, passages = list(range(thing.rooms)), list(range(thing.passages))
    rows = [[thing.width(room, passage) for passage in passages] for room in rooms]
    room_leaks = [thing.room_total(room) - sum(rows[room]) for room in rooms]
    passage_leaks = [thing.passage_total(passage) - sum([row[passage] for row in rows]) for passage in passages]
    widths = "/".join([_numerals(row) for row in rows])
    return " ".join(["web", widths, _numerals(room_leaks), _numerals(passage_leaks)])


def _numerals(numbers):
    """The numbers with commas between them; - for an empty list."""
    if not numbers:
        return "-"
    return ",".join([str(number) for number in numbers])
