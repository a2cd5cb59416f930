"""Point 52: desks written as texts and read from them."""

import fractions
import itertools
import unittest

from tests.plain import LINES, WEBS, PlainCase, fraction_list, ours, play, walk, web_of
from tests.plain_desk import supposed_line, supposed_web
from tracerline.alike import alike, line_of
from tracerline.booktext import read_desk
from tracerline.desk import Desk
from tracerline.errors import (
    BadLine, BadText, BadWeb, Barred, FullReader, Misfit, NothingLeft, TakenName, UnknownName,
)
from tracerline.exact import Fraction
from tracerline.lines import Line
from tracerline.webs import Web

HALF = Fraction(1, 2)
POND = "\n".join([
    "station pond", "suppose pond a line 1/2 0", "suppose pond b web 1,1/0,1 0,0 0,0", "note pond 1/2", "note pond 1/4",
])


def every_thing():
    """The webs and lines of the tests, as they are, and with what the text of a desk says of them."""
    lines = [supposed_line(Line(shares), shares) for shares in LINES]
    return lines + [supposed_web(web_of(sample), sample) for sample in WEBS]


class TextCase(PlainCase):
    def check_text(self, text, line, column):
        self.check_error(BadText, {"line": line, "column": column}, read_desk, text)

    def check_state(self, desk, other):
        self.assertEqual(desk.stations(), other.stations())
        for name in desk.stations():
            self.assertEqual(desk.readings(name), other.readings(name))
            self.assertEqual(desk.standing(name), other.standing(name))
            self.assertEqual(desk.struck(name), other.struck(name))
            self.assertEqual(desk.telling(name), other.telling(name))


class Text(TextCase):
    def test_no_stations(self):
        self.assertEqual(Desk().text(), "")

    def test_stations_and_notes(self):
        desk = Desk()
        desk.add_station("pond")
        desk.add_station("lake")
        self.assertEqual(desk.text(), "station pond\nstation lake")
        desk.take_all([("lake", 1), ("pond", Fraction(2, 4)), ("lake", Fraction(1))])
        self.assertEqual(desk.text(), "station pond\nnote pond 1/2\nstation lake\nnote lake 1\nnote lake 1")

    def test_every_thing(self):
        for supposed in every_thing():
            desk = Desk()
            desk.add_station("pond")
            desk.suppose("pond", "label", supposed.thing)
            self.assertEqual(desk.text(), "station pond\nsuppose pond label " + supposed.text)

    def test_struck_and_dropped_suppositions(self):
        desk = Desk()
        desk.add_station("pond")
        for label, line in (("z", Line([HALF, 0])), ("a", Line([0])), ("y", Line([HALF, 1]))):
            desk.suppose("pond", label, line)
        desk.note("pond", HALF)
        desk.suppose("pond", "b", Line([HALF, 1]))
        desk.drop("pond", "y")
        self.assertEqual(desk.text(), "station pond\nsuppose pond z line 1/2 0\nsuppose pond a line 0\n"
                                      "suppose pond b line 1/2 1\nnote pond 1/2")

    def test_webs_without_a_passage(self):
        desk = Desk()
        desk.add_station("a")
        desk.suppose("a", "x", Web([[]], room_leaks=[3]))
        desk.suppose("a", "y", Web([[], [], []], room_leaks=[1, 20, 3]))
        self.assertEqual(desk.text(), "station a\nsuppose a x web - 3 -\nsuppose a y web -/-/- 1,20,3 -")

    def test_leaks_are_always_written(self):
        desk = Desk()
        desk.add_station("a")
        desk.suppose("a", "x", Web.shut([[1, 0], [20, 3]]))
        desk.suppose("a", "y", Web([[1, 0], [20, 3]], room_leaks=[0, 7]))
        desk.suppose("a", "z", Web([[1, 0], [20, 3]], passage_leaks=[5, 0]))
        self.assertEqual([line.split(" ")[4:] for line in desk.text().split("\n")[1:]],
                         [["1,0/20,3", "0,0", "0,0"], ["1,0/20,3", "0,7", "0,0"], ["1,0/20,3", "0,0", "5,0"]])


class ThereAndBack(TextCase):
    def desks(self):
        """Desks with a station for each web and line, with one to three suppositions of the next ones."""
        things = every_thing()
        for place in range(len(things)):
            desk = Desk()
            for name, turn in (("one", 0), ("two", 1)):
                desk.add_station(name)
                for label, supposed in zip("xyz", things[place + turn:] + things):
                    desk.suppose(name, label, supposed.thing)
                for reading in things[(place + turn) % len(things)].readings[1:place % 6 + 1]:
                    desk.note(name, ours(reading))
            yield desk

    def test_texts_written_and_read_back(self):
        for desk in self.desks():
            found = read_desk(text=desk.text())
            self.assertIs(found.__class__, Desk)
            self.check_state(found, desk)
            self.assertEqual(found.text(), desk.text())

    def test_the_empty_text(self):
        desk = read_desk("")
        self.assertEqual((len(desk), desk.stations(), desk.text()), (0, [], ""))

    def test_nothing_to_undo_or_to_redo(self):
        for text in ("", "station a", POND):
            desk = read_desk(text)
            self.check_error(NothingLeft, {}, desk.undo)
            self.check_error(NothingLeft, {}, desk.redo)
            desk.add_station("new")
            desk.undo()
            self.assertEqual(desk.text(), text)
            self.check_error(NothingLeft, {}, desk.undo)
            desk.redo()
            self.assertIn("new", desk)

    def test_other_orders_of_the_lines(self):
        first, last = "station a", "station b"
        rest = ["suppose a x line 1/2 0", "note a 1/2", "suppose b y line 1"]
        for lines in itertools.permutations(rest):
            desk = read_desk("\n".join([first, last] + list(lines)))
            self.assertEqual((desk.standing("a"), desk.standing("b")), (["x"], ["y"]))
            self.check_numbers(desk.readings("a"), walk(fraction_list("1/2 0"), 1))
        desk = read_desk("station a\nnote a 1/2\nnote a 3/8\nsuppose a x line 1/2 1/2 1\nsuppose a y line 1/2 1/2 0\n"
                         "note a 19/64")
        self.assertEqual((desk.standing("a"), desk.struck("a")), ([], [("x", 3), ("y", 3)]))
        self.assertEqual(desk.text().split("\n")[1], "suppose a x line 1/2 1/2 1")

    def test_the_things_that_are_read(self):
        for supposed in every_thing():
            desk = read_desk("station a\nsuppose a x " + supposed.text)
            for tick in (0, 1, 5, 40):
                self.check_number(desk.agreed("a", tick), supposed.readings[tick])
            desk.suppose("a", "y", supposed.thing)
            self.assertIsNone(desk.telling("a"))

    def test_fractions_that_are_not_in_lowest_terms(self):
        desk = read_desk("station a\nsuppose a x line 2/4 0/7\nnote a 4/8")
        self.assertEqual(desk.text(), "station a\nsuppose a x line 1/2 0\nnote a 1/2")

    def test_empty_lists(self):
        desk = read_desk("station a\nsuppose a x web - 3 -\nsuppose a y web -/- 3,1 -\nsuppose a z web 1,2 0 -")
        self.assertEqual(desk.text().split("\n")[1:], ["suppose a x web - 3 -", "suppose a y web -/- 3,1 -",
                                                       "suppose a z web 1,2 0 0,0"])

    def test_long_numerals(self):
        long = "9" * 60
        desk = read_desk(f"station a\nsuppose a x web {long},0 {long} 0,{long}\nnote a 1{'0' * 58}/{long}")
        self.check_numbers(desk.readings("a"), [1, fractions.Fraction(10 ** 58, 10 ** 60 - 1)])

    def test_labels_and_names_that_are_words(self):
        text = "station station\nsuppose station web web 1 0 0\nsuppose station line line 1\nnote station 1"
        self.assertEqual(read_desk(text).text(), text)

    def test_examples(self):
        desk = read_desk("station a\nsuppose a x web 1,0/0,2 0,1 3,0\nnote a 1/4")
        self.assertEqual([desk.standing("a"), desk.text().split("\n")[2]], [["x"], "note a 1/4"])
        self.check_text("station a\nnote a  1/2", 2, 8)


class WrongWords(TextCase):
    def check_line(self, line, column):
        """The line is wrong at this column, as the only line, behind others and ahead of another wrong one."""
        self.check_text(line, 1, column)
        self.check_text("station a\nnote a 1/2\n" + line, 3, column)
        self.check_text("station a\n" + line + "\nnonsense", 2, column)

    def test_first_words(self):
        for word in ("", "stations", "Station", "STATION", "notes", "supposed", "line", "web", "a", "1", "-", "sta"):
            self.check_line(word + " a", 1)
            if word:
                self.check_line(word, 1)
        self.check_line(" station a", 1)
        self.check_line("station\ta", 1)

    def test_names_and_labels(self):
        for word in ("A", "aB", "abcdefghi", "a1", "1", "a-", "-", "a,b", "_"):
            self.check_line("station " + word, 9)
            self.check_line(f"note {word} 1/2", 6)
            self.check_line(f"suppose {word} x line 1", 9)
            self.check_line(f"suppose a {word} line 1", 11)
            self.check_line(f"suppose abc {word} web 1 0 0", 13)

    def test_readings(self):
        for word in ("a", "-", "1/0", "01", "-0", "+1", "1/2/3", "1.5", "1/", "/2", "1,2", "--1", "1/-2", "9" * 61):
            self.check_line("note a " + word, 8)
            self.check_line("note abcdefgh " + word, 15)

    def test_kinds(self):
        for word in ("lines", "Web", "webs", "1", "-", "1/2"):
            self.check_line(f"suppose a x {word} 1 0 0", 13)
            self.check_line(f"suppose a x {word}", 13)

    def test_shares(self):
        for word in ("a", "-", "1/0", "01", "1,0", "x", "1/2,0"):
            self.check_line("suppose a x line " + word, 18)
            self.check_line(f"suppose a x line 1/2 {word} 0", 22)
            self.check_line(f"suppose a x line 1/2 0 {word}", 24)

    def test_widths(self):
        for word in ("a", "1,", ",1", "1,,2", "1/", "/1", "1//2", "01", "1,-2", "-1", "1/-2", "--", "1,-", "1;2", "1.0",
                     "0/1/02", "9" * 61, "1,-/2,0", "/"):
            self.check_line(f"suppose a x web {word} 0 0", 17)

    def test_leaks(self):
        for word in ("a", "1,", ",1", "1,,2", "1/2", "01", "-1", "--", "1,-", "9" * 61):
            self.check_line(f"suppose a x web 1 {word} 0", 19)
            self.check_line(f"suppose a x web 1 0 {word}", 21)
            self.check_line(f"suppose a x web 1,0/2,3 0,0 {word}", 29)
        # Only the leaks of the passages may be an empty list.
        self.check_line("suppose a x web 1 - 0", 19)
        self.check_line("suppose a x web - - -", 19)

    def test_empty_words(self):
        for line, column in (
            ("station  a", 9), ("station a ", 11), ("note  a 1/2", 6), ("note a  1/2", 8), ("note a 1/2 ", 12),
            ("note a 1/2  ", 12), ("suppose  a x line 1", 9), ("suppose a  x line 1", 11), ("suppose a x  line 1", 13),
            ("suppose a x line  1", 18), ("suppose a x line 1/2  0", 22), ("suppose a x line 1 ", 20),
            ("suppose a x web  1 0 0", 17), ("suppose a x web 1  0 0", 19), ("suppose a x web 1 0  0", 21),
            ("suppose a x web 1 0 0 ", 23), ("station ", 9), ("note ", 6), ("note a ", 8), ("suppose a x line ", 18),
            (" ", 1), ("  ", 1),
        ):
            self.check_line(line, column)

    def test_missing_words(self):
        for line in ("station", "note", "note a", "suppose", "suppose a", "suppose a x", "suppose a x line",
                     "suppose a x web", "suppose a x web 1", "suppose a x web 1 0"):
            self.check_line(line, len(line) + 1)

    def test_words_too_many(self):
        for line in ("station a", "note a 1/2", "suppose a x web 1 0 0"):
            for more in ("b", "1", "-", "0 0"):
                self.check_line(line + " " + more, len(line) + 2)

    def test_two_wrong_words(self):
        for line, column in (("note A x", 6), ("suppose A B line 1", 9), ("suppose a B lines 1", 11), ("nota A", 1),
                             ("suppose a x web 1, 01 -1", 17), ("suppose a x web 1 01 -1", 19), ("note a x y", 8),
                             ("suppose a x line x y", 18), ("station A b", 9), ("suppose a X web", 11)):
            self.check_line(line, column)

    def test_empty_lines(self):
        self.check_text("\n", 1, 1)
        self.check_text("\nstation a", 1, 1)
        self.check_text("station a\n", 2, 1)
        self.check_text("station a\n\nnote a 1", 2, 1)


class ErrorsOfMethodsAndConstructors(TextCase):
    def check_raised(self, kind, values, text):
        """The error is raised as it is, also ahead of a wrong line."""
        self.check_error(kind, values, read_desk, text)
        self.check_error(kind, values, read_desk, text + "\nnonsense")

    def test_stations(self):
        self.check_raised(TakenName, {"name": "a"}, "station a\nstation b\nstation a")
        self.check_raised(UnknownName, {"name": "a"}, "note a 1")
        self.check_raised(UnknownName, {"name": "b"}, "station a\nsuppose b x line 1")
        self.check_raised(UnknownName, {"name": "a"}, "note a 1\nstation a")

    def test_suppositions(self):
        self.check_raised(TakenName, {"name": "x"}, "station a\nsuppose a x line 1\nsuppose a x line 0")
        self.check_raised(Misfit, {"tick": 1}, "station a\nnote a 1/2\nsuppose a x line 0")
        self.check_raised(Misfit, {"tick": 2}, "station a\nnote a 1/2\nnote a 1/2\nsuppose a x web 1/1 0,1 0")

    def test_notes(self):
        for note, tick in (("note a 2", 1), ("note a -1/2", 1), ("note a 1/2\nnote a 1/8", 2)):
            for more in ("", "\nnonsense"):
                with self.assertRaises(Barred) as caught:
                    read_desk("station a\n" + note + more)
                self.assertEqual(caught.exception.tick, tick)
        self.check_raised(FullReader, {"most": 12}, "station a\n" + "\n".join(["note a 1"] * 13))
        self.assertEqual(len(read_desk("station a\n" + "\n".join(["note a 1"] * 12)).readings("a")), 13)

    def test_lines_and_webs(self):
        for shares, place in (("1/2", 0), ("1 0", 0), ("1/2 1/3", 1), ("1/2 0 1", 1), ("2", 0), ("1/2 -1/2 0", 1)):
            self.check_raised(BadLine, {"place": place}, "station a\nsuppose a x line " + shares)
        for words, reason in (("1/1,2 0,0 0", "uneven"), ("-/1 0,0 0", "uneven"), ("1 0,0 0", "room_leaks"),
                              ("1/1 0 0", "room_leaks"), ("1 0 0,0", "passage_leaks"), ("- 1 0", "passage_leaks"),
                              ("0 0 1", "room"), ("- 0 -", "room"), ("0 1 0", "passage"), ("1,0 0 -", "passage"),
                              ("1,2 1 0", "passage_leaks")):
            self.check_raised(BadWeb, {"reason": reason}, "station a\nsuppose a x web " + words)

    def test_the_thing_is_made_before_the_method_is_called(self):
        self.check_raised(BadLine, {"place": 0}, "suppose a x line 2")
        self.check_raised(BadWeb, {"reason": "room"}, "station a\nsuppose b x web - 0 -")
        self.check_raised(BadLine, {"place": 0}, "station a\nsuppose a x line 1\nsuppose a x line 5")

    def test_a_line_is_read_before_it_is_done(self):
        self.check_text("note a 1 1", 1, 10)
        self.check_text("station a\nstation a b", 2, 11)
        self.check_text("suppose a x line 2 x", 1, 20)
        self.check_text("suppose a x web 1,0/1 0 0 0", 1, 27)
        self.check_text("station a\nnote a 7 ", 2, 10)


class Whole(TextCase):
    def test_a_web_that_is_read_is_the_web_that_was_written(self):
        for sample in WEBS:
            desk = Desk()
            desk.add_station("a")
            desk.suppose("a", "x", web_of(sample))
            words = desk.text().split(" ")[5:]
            widths = [[int(width) for width in row.split(",") if width != "-"] for row in words[0].split("/")]
            leaks = [[int(leak) for leak in word.split(",") if leak != "-"] for word in words[1:]]
            web = Web(widths, room_leaks=leaks[0], passage_leaks=leaks[1])
            self.assertTrue(alike(web, web_of(sample)))
            self.assertEqual(line_of(web), line_of(web_of(sample)))
            for room in range(web.rooms):
                self.assertEqual(web.after(3, start=room), [ours(a) for a in play(*sample, start=room, ticks=3)[3][0]])


if __name__ == "__main__":
    unittest.main()
