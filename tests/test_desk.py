"""Points 47 to 51: desks, stations, suppositions and changes."""

import random
import unittest

from tests.plain import LINES, LONG, WEBS, PlainCase, fraction_list, ours, theirs, walk, web_of
from tests.plain_desk import PlainDesk, supposed_line, supposed_web
from tracerline.desk import Desk
from tracerline.errors import (
    BadName, BadTick, Barred, FullReader, Misfit, NothingLeft, TakenName, TracerError, UnknownName,
)
from tracerline.exact import Fraction
from tracerline.later import later
from tracerline.lines import Line
from tracerline.webs import Web

HALF, QUARTER = Fraction(1, 2), Fraction(1, 4)
TINY = Fraction(1, LONG)
WRONG_NAMES = ["", "abcdefghi", "A", "aB", "a1", "a b", " a", "a ", "a-", "a\n", "_", "~"]
KINDS_OF_CALLS = ["add"] + ["suppose"] * 6 + ["drop", "all", "undo", "redo"] * 2 + ["note"] * 5
GOOD_NAMES = ["a", "z", "pond", "abcdefgh", "zzzzzzzz", "mix", "station", "line", "note"]


def pond():
    """A desk with the station pond and three suppositions; a and b part at the tick 2, b and c at the tick 4."""
    desk = Desk()
    desk.add_station("pond")
    desk.suppose("pond", "a", Line([HALF, 0]))
    desk.suppose("pond", "b", Line([HALF, HALF, HALF, 0]))
    desk.suppose("pond", "c", Web.shut([[1, 1], [1, 2]]))
    return desk


class DeskCase(PlainCase):
    def check_range(self, found, expected):
        self.assertIs(found.__class__, tuple)
        self.assertEqual(found, expected)


class Stations(DeskCase):
    def test_a_new_desk(self):
        desk = Desk()
        self.assertEqual((len(desk), desk.stations(), "a" in desk), (0, [], False))

    def test_adding(self):
        desk = Desk()
        for name in GOOD_NAMES:
            self.assertIsNone(desk.add_station(name))
        self.assertEqual(desk.stations(), GOOD_NAMES)
        self.assertEqual(len(desk), len(GOOD_NAMES))
        self.assertIs("pond" in desk, True)
        self.assertIs("lake" in desk, False)
        self.check_numbers(desk.readings(name="pond"), [1])
        self.assertEqual((desk.standing(name="pond"), desk.struck(name="pond")), ([], []))

    def test_errors(self):
        desk = Desk()
        desk.add_station(name="a")
        for name in WRONG_NAMES:
            self.check_error(BadName, {"name": name}, desk.add_station, name)
            self.assertNotIn(name, desk)
        self.check_error(TakenName, {"name": "a"}, desk.add_station, "a")
        self.assertEqual(desk.stations(), ["a"])

    def test_two_desks(self):
        one, two = Desk(), Desk()
        one.add_station("a")
        self.assertEqual(len(two), 0)
        self.check_error(NothingLeft, {}, two.undo)

    def test_lists_are_new_on_each_call(self):
        desk = pond()
        desk.note("pond", HALF)
        desk.note("pond", QUARTER)
        for method in (desk.readings, desk.standing, desk.struck):
            before = method("pond")
            method("pond").append("x")
            method("pond").clear()
            self.assertEqual(method("pond"), before)
        desk.stations().append("x")
        self.assertEqual(desk.stations(), ["pond"])

    def test_between(self):
        desk = pond()
        self.check_range(desk.between("pond", 3), later([1], 3))
        desk.note("pond", HALF)
        for tick in (0, 1, 2, 7):
            self.check_range(desk.between(name="pond", tick=tick), later([1, HALF], tick))
        self.assertEqual([str(number) for number in desk.between("pond", 3)], ["1/8", "1/2"])
        self.check_error(BadTick, {"tick": -1}, desk.between, "pond", -1)


class UnknownStations(DeskCase):
    def test_every_method_with_the_parameter_name(self):
        desk = pond()
        calls = [
            (desk.readings, ()), (desk.between, (-1,)), (desk.suppose, ("A", Line([0]))), (desk.standing, ()),
            (desk.struck, ()), (desk.drop, ("nobody",)), (desk.note, (7,)), (desk.telling, ()), (desk.agreed, (-1,)),
        ]
        text = desk.text()
        for name in ["lake"] + WRONG_NAMES:
            for method, rest in calls:
                self.check_error(UnknownName, {"name": name}, method, name, *rest)
            self.check_error(UnknownName, {"name": name}, desk.take_all, [("pond", HALF), (name, 7)])
        self.assertEqual(desk.text(), text)


class Suppositions(DeskCase):
    def test_standing(self):
        desk = pond()
        self.assertIsNone(desk.suppose(name="pond", label="pond", thing=Line([1])))
        self.assertEqual(desk.standing("pond"), ["a", "b", "c", "pond"])
        self.assertEqual(desk.struck("pond"), [])

    def test_labels(self):
        desk = pond()
        for label in WRONG_NAMES:
            self.check_error(BadName, {"name": label}, desk.suppose, "pond", label, Line([1]))
        for label in GOOD_NAMES[1:]:
            desk.suppose("pond", label, Line([1]))
        self.assertEqual(desk.standing("pond"), ["a", "b", "c"] + GOOD_NAMES[1:])

    def test_the_same_label_at_two_stations(self):
        desk = pond()
        desk.add_station("lake")
        desk.suppose("lake", "a", Line([1]))
        self.assertEqual((desk.standing("pond"), desk.standing("lake")), (["a", "b", "c"], ["a"]))

    def test_labels_in_use(self):
        desk = pond()
        self.check_error(TakenName, {"name": "a"}, desk.suppose, "pond", "a", Line([1]))
        desk.note("pond", HALF)
        desk.note("pond", Fraction(3, 8))
        self.assertEqual(desk.struck("pond"), [("a", 2), ("c", 1)])
        for label in ("a", "b", "c"):
            self.check_error(TakenName, {"name": label}, desk.suppose, "pond", label, Line([1]))

    def test_misfits(self):
        desk = pond()
        desk.note("pond", HALF)
        desk.note("pond", Fraction(3, 8))
        text = desk.text()
        for thing, tick in ((Line([1]), 1), (Line([HALF, 0]), 2), (Line([HALF, 1]), 2), (Web.shut([[1], [1]]), 2),
                            (Web.shut([[1]]), 1)):
            self.check_error(Misfit, {"tick": tick}, desk.suppose, "pond", "new", thing)
        self.check_error(BadName, {"name": ""}, desk.suppose, "pond", "", Line([1]))
        self.check_error(TakenName, {"name": "b"}, desk.suppose, "pond", "b", Line([1]))
        self.assertEqual(desk.text(), text)
        desk.suppose("pond", "new", Line([HALF, HALF, 1]))
        self.assertEqual(desk.standing("pond"), ["b", "new"])

    def test_dropping(self):
        desk = pond()
        desk.note("pond", HALF)
        self.assertEqual((desk.standing("pond"), desk.struck("pond")), (["a", "b"], [("c", 1)]))
        self.assertIsNone(desk.drop("pond", "c"))
        self.assertIsNone(desk.drop(name="pond", label="a"))
        self.assertEqual((desk.standing("pond"), desk.struck("pond")), (["b"], []))
        for label in ("a", "c", "pond", "", "NO"):
            self.check_error(UnknownName, {"name": label}, desk.drop, "pond", label)
        desk.suppose("pond", "a", Line([HALF, 0]))
        self.assertEqual(desk.standing("pond"), ["b", "a"])

    def test_a_supposition_that_was_struck_stays_struck(self):
        # The two lines differ at the tick 2, and have the same reading at the tick 3.
        one, two = Line(fraction_list("1/2 1/2 0")), Line(fraction_list("1/2 2/5 29/48 0"))
        self.assertEqual([one(tick) == two(tick) for tick in range(5)], [True, True, False, True, False])
        desk = Desk()
        desk.add_station("a")
        desk.suppose("a", "x", one)
        self.assertEqual([desk.note("a", reading) for reading in two.readings(3)[1:]], [[], ["x"], []])
        self.assertEqual((desk.standing("a"), desk.struck("a")), ([], [("x", 2)]))


class Notes(DeskCase):
    def test_notes_that_strike_none_one_and_several(self):
        desk = pond()
        desk.suppose("pond", "d", Line([QUARTER, 0]))
        self.assertEqual(desk.note(name="pond", reading=HALF), ["c", "d"])
        self.assertEqual(desk.note("pond", Fraction(3, 8)), ["a"])
        self.assertEqual(desk.note("pond", Line([HALF, HALF, HALF, 0])(3)), [])
        self.assertEqual(desk.standing("pond"), ["b"])
        self.assertEqual(desk.struck("pond"), [("a", 2), ("c", 1), ("d", 1)])
        self.check_numbers(desk.readings("pond"), walk(fraction_list("1/2 1/2 1/2 0"), 3))

    def test_integers(self):
        desk = pond()
        self.assertEqual(desk.note("pond", 1), ["a", "b", "c"])
        self.check_numbers(desk.readings("pond"), [1, 1])

    def test_other_stations_are_left_alone(self):
        desk = pond()
        desk.add_station("lake")
        desk.suppose("lake", "a", Line([1]))
        desk.note("pond", 0)
        self.assertEqual((desk.standing("lake"), desk.struck("lake")), (["a"], []))
        self.check_numbers(desk.readings("lake"), [1])

    def test_barred(self):
        desk = pond()
        desk.note("pond", HALF)
        text = desk.text()
        for reading in (QUARTER - TINY, HALF + TINY, 1, -1):
            with self.assertRaises(Barred) as caught:
                desk.note("pond", reading)
            self.assertEqual(caught.exception.tick, 2)
            self.assertTrue(caught.exception.weights.bars([1, HALF, reading]))
        self.assertEqual(desk.text(), text)
        desk.note("pond", HALF)
        with self.assertRaises(Barred) as caught:
            desk.note("pond", HALF - TINY)
        self.assertTrue(caught.exception.weights.bars([1, HALF, HALF, HALF - TINY]))

    def test_full_stations(self):
        for shares in LINES:
            desk = Desk()
            desk.add_station("a")
            desk.suppose("a", "x", Line(shares))
            for reading in walk(shares, 12)[1:]:
                self.assertEqual(desk.note("a", ours(reading)), [])
            for reading in (HALF, 7):
                self.check_error(FullReader, {"most": 12}, desk.note, "a", reading)
                self.check_error(FullReader, {"most": 12}, desk.take_all, [("a", reading)])
            self.check_numbers(desk.readings("a"), walk(shares, 12))
            desk.undo()
            self.check_numbers(desk.readings("a"), walk(shares, 11))


class TakeAll(DeskCase):
    def two(self):
        desk = pond()
        desk.add_station("lake")
        desk.suppose("lake", "a", Line([1]))
        desk.suppose("lake", "x", Line([QUARTER, HALF, 0]))
        return desk

    def test_several_stations(self):
        desk = self.two()
        notes = [("lake", QUARTER), ("pond", HALF), ("pond", HALF), ("lake", Fraction(1, 16))]
        self.assertEqual(desk.take_all(notes=notes),
                         [("lake", "a"), ("pond", "c"), ("pond", "a"), ("pond", "b"), ("lake", "x")])
        self.check_numbers(desk.readings("lake"), [1, theirs(QUARTER), theirs(QUARTER) ** 2])
        self.assertEqual(desk.struck("pond"), [("a", 2), ("b", 2), ("c", 1)])

    def test_one_change(self):
        desk = self.two()
        before = desk.text()
        desk.take_all([("lake", QUARTER), ("pond", HALF), ("pond", HALF)])
        after = desk.text()
        desk.undo()
        self.assertEqual(desk.text(), before)
        desk.redo()
        self.assertEqual(desk.text(), after)

    def test_an_empty_list_is_a_change(self):
        desk = self.two()
        text = desk.text()
        self.assertEqual(desk.take_all([]), [])
        desk.undo()
        self.assertEqual(desk.text(), text)
        self.assertEqual(desk.stations(), ["pond", "lake"])
        desk.undo()
        self.assertEqual(desk.standing("lake"), ["a"])
        desk.take_all([])
        self.check_error(NothingLeft, {}, desk.redo)

    def test_a_wrong_note_at_each_place(self):
        good = [("lake", QUARTER), ("pond", HALF), ("lake", Fraction(1, 16))]
        for place in range(4):
            for note, kind in ((("sea", HALF), UnknownName), (("pond", 2), Barred), (("lake", -1), Barred)):
                desk = self.two()
                text = desk.text()
                with self.assertRaises(kind):
                    desk.take_all(good[:place] + [note] + good[place:])
                self.assertEqual(desk.text(), text)
                self.assertEqual((desk.struck("pond"), desk.struck("lake")), ([], []))
                self.check_error(NothingLeft, {}, desk.redo)
                desk.undo()
                self.assertEqual(desk.standing("lake"), ["a"])

    def test_the_first_wrong_note_counts(self):
        desk = self.two()
        self.check_error(UnknownName, {"name": "sea"}, desk.take_all, [("sea", 1), ("pond", 7)])
        with self.assertRaises(Barred):
            desk.take_all([("pond", 7), ("sea", 1)])

    def test_a_note_that_is_too_many(self):
        desk = self.two()
        self.check_error(FullReader, {"most": 12}, desk.take_all, [("pond", 1)] * 13)
        self.check_numbers(desk.readings("pond"), [1])
        desk.take_all([("pond", 1)] * 12)
        self.check_numbers(desk.readings("pond"), [1] * 13)

    def test_the_list_that_was_passed_in(self):
        desk = self.two()
        notes = [("lake", QUARTER)]
        found = desk.take_all(notes)
        self.assertEqual(notes, [("lake", QUARTER)])
        notes.append(("pond", HALF))
        found.append("x")
        self.check_numbers(desk.readings("pond"), [1])


class Telling(DeskCase):
    def test_none_one_and_several(self):
        desk = Desk()
        desk.add_station("a")
        self.assertIsNone(desk.telling(name="a"))
        desk.suppose("a", "x", Line([HALF, 0]))
        self.assertIsNone(desk.telling("a"))
        desk.suppose("a", "same", Line([HALF, 0]).web())
        self.assertIsNone(desk.telling("a"))
        desk.suppose("a", "y", Line([HALF, HALF, HALF, 0]))
        self.assertEqual(desk.telling("a"), 2)
        desk.suppose("a", "z", Line([1]))
        self.assertEqual(desk.telling("a"), 1)

    def test_suppositions_that_differ_only_from_one_another(self):
        desk = Desk()
        desk.add_station("a")
        for label, text in (("x", "1/2 1/3 0"), ("y", "1/2 1/3 1/4 1"), ("z", "1/2 1/3 1/4 1/2 0")):
            desk.suppose("a", label, Line(fraction_list(text)))
        self.assertEqual(desk.telling("a"), 3)
        desk.drop("a", "x")
        self.assertEqual(desk.telling("a"), 4)
        desk.drop("a", "z")
        self.assertIsNone(desk.telling("a"))

    def test_struck_suppositions_do_not_count(self):
        desk = pond()
        self.assertEqual(desk.telling("pond"), 1)
        desk.note("pond", HALF)
        self.assertEqual(desk.telling("pond"), 2)
        desk.note("pond", Fraction(3, 8))
        self.assertIsNone(desk.telling("pond"))

    def test_a_reading_at_this_tick_strikes(self):
        desk = Desk()
        desk.add_station("a")
        lines = [fraction_list("1/2 1/3 1/4 1"), fraction_list("1/2 1/3 1/4 1/2 0")]
        for label, shares in zip("xy", lines):
            desk.suppose("a", label, Line(shares))
        while desk.telling("a"):
            tick = desk.telling("a")
            desk.note("a", ours(walk(lines[0], 12)[len(desk.readings("a"))]))
        self.assertEqual(desk.struck("a"), [("y", tick)])

    def test_example(self):
        desk = Desk()
        desk.add_station("pond")
        desk.suppose("pond", "a", Line([HALF, 0]))
        desk.suppose("pond", "b", Line([HALF, 1]))
        desk.note("pond", HALF)
        before = desk.telling("pond")
        self.assertEqual([before, desk.note("pond", HALF), desk.standing("pond"), desk.struck("pond")],
                         [2, ["a"], ["b"], [("a", 2)]])


class Agreed(DeskCase):
    def test_none_one_and_several(self):
        desk = Desk()
        desk.add_station("a")
        for tick in (0, 1, 40):
            self.assertIsNone(desk.agreed("a", tick))
        shares = fraction_list("1/2 1/3 0")
        desk.suppose("a", "x", Line(shares))
        for tick in (0, 1, 2, 40):
            self.check_number(desk.agreed(name="a", tick=tick), walk(shares, 40)[tick])
        desk.suppose("a", "y", Line(fraction_list("1/2 1/3 1")))
        for tick in (0, 1, 2):
            self.check_number(desk.agreed("a", tick), walk(shares, 2)[tick])
        for tick in (3, 4, 40):
            self.assertIsNone(desk.agreed("a", tick))

    def test_at_ticks_that_have_been_read(self):
        desk = pond()
        desk.note("pond", HALF)
        self.check_number(desk.agreed("pond", 1), theirs(HALF))
        self.assertIsNone(desk.agreed("pond", 2))
        desk.note("pond", Fraction(3, 8))
        self.check_number(desk.agreed("pond", 2), theirs(Fraction(3, 8)))
        self.check_number(desk.agreed("pond", 5), walk(fraction_list("1/2 1/2 1/2 0"), 5)[5])
        desk.drop("pond", "b")
        self.assertIsNone(desk.agreed("pond", 1))

    def test_lines_that_agree_again_at_a_later_tick(self):
        one, two = Line(fraction_list("1/2 1/2 0")), Line(fraction_list("1/2 2/5 29/48 0"))
        desk = Desk()
        desk.add_station("a")
        desk.suppose("a", "x", one)
        desk.suppose("a", "y", two)
        for tick in (0, 1, 3):
            self.check_number(desk.agreed("a", tick), walk(one.shares(), 3)[tick])
        for tick in (2, 4, 5):
            self.assertIsNone(desk.agreed("a", tick))

    def test_negative_ticks(self):
        desk = pond()
        desk.add_station("lake")
        for name in ("pond", "lake"):
            for tick in (-1, -6):
                self.check_error(BadTick, {"tick": tick}, desk.agreed, name, tick)


class UndoAndRedo(DeskCase):
    def changes(self):
        return [
            lambda desk: desk.add_station("pond"),
            lambda desk: desk.suppose("pond", "a", Line([HALF, 0])),
            lambda desk: desk.add_station("lake"),
            lambda desk: desk.suppose("pond", "b", Line([1])),
            lambda desk: desk.note("pond", HALF),
            lambda desk: desk.take_all([]),
            lambda desk: desk.drop("pond", "b"),
            lambda desk: desk.take_all([("lake", 0), ("pond", HALF)]),
            lambda desk: desk.suppose("lake", "x", Web([[]], room_leaks=[3])),
            lambda desk: desk.drop("pond", "a"),
        ]

    def state(self, desk):
        return desk.text(), [(desk.readings(name), desk.standing(name), desk.struck(name)) for name in desk.stations()]

    def test_through_every_kind_of_change(self):
        desk = Desk()
        states = [self.state(desk)]
        for change in self.changes():
            change(desk)
            states.append(self.state(desk))
        for many in range(len(states)):
            for state in states[-2::-1][:many]:
                self.assertIsNone(desk.undo())
                self.assertEqual(self.state(desk), state)
            for state in states[len(states) - many:]:
                self.assertIsNone(desk.redo())
                self.assertEqual(self.state(desk), state)
        self.check_error(NothingLeft, {}, desk.redo)
        for _ in self.changes():
            desk.undo()
        self.check_error(NothingLeft, {}, desk.undo)
        self.assertEqual(self.state(desk), states[0])

    def test_a_new_change_behind_an_undo(self):
        changes = self.changes()
        for place in range(1, len(changes)):
            desk = Desk()
            for change in changes[:place]:
                change(desk)
            before = self.state(desk)
            changes[place](desk)
            desk.undo()
            desk.add_station("sea")
            self.check_error(NothingLeft, {}, desk.redo)
            desk.undo()
            self.assertEqual(self.state(desk), before)

    def test_a_call_that_raises_an_error_is_no_change(self):
        wrong = [
            lambda desk: desk.add_station("pond"), lambda desk: desk.add_station("A"),
            lambda desk: desk.suppose("pond", "a", Line([0])), lambda desk: desk.suppose("pond", "new", Line([0])),
            lambda desk: desk.suppose("pond", "B", Line([0])), lambda desk: desk.suppose("sea", "a", Line([0])),
            lambda desk: desk.drop("pond", "new"), lambda desk: desk.note("pond", 7), lambda desk: desk.note("sea", 1),
            lambda desk: desk.take_all([("lake", 0), ("pond", 7)]), lambda desk: desk.agreed("pond", -1),
            lambda desk: desk.between("pond", -1), lambda desk: desk.readings("sea"),
        ]
        desk = Desk()
        for change in self.changes():
            change(desk)
        after = self.state(desk)
        desk.undo()
        desk.undo()
        desk.undo()
        before = self.state(desk)
        for call in wrong:
            with self.assertRaises(TracerError):
                call(desk)
            self.assertEqual(self.state(desk), before)
        for _ in range(3):
            desk.redo()
        self.assertEqual(self.state(desk), after)
        self.check_error(NothingLeft, {}, desk.redo)
        self.assertEqual(self.state(desk), after)

    def test_reading_a_desk_is_no_change(self):
        desk = pond()
        desk.undo()
        for call in (desk.text, desk.stations, lambda: desk.readings("pond"), lambda: desk.standing("pond"),
                     lambda: desk.struck("pond"), lambda: desk.telling("pond"), lambda: desk.agreed("pond", 1),
                     lambda: desk.between("pond", 1), lambda: len(desk), lambda: "pond" in desk):
            call()
        desk.redo()
        self.assertEqual(desk.standing("pond"), ["a", "b", "c"])

    def test_forgetting_all_changes(self):
        desk = pond()
        desk.note("pond", HALF)
        desk.undo()
        text = desk.text()
        self.assertIsNone(desk.forget())
        self.check_error(NothingLeft, {}, desk.undo)
        self.check_error(NothingLeft, {}, desk.redo)
        self.assertEqual(desk.text(), text)

    def test_nothing_left_at_first(self):
        desk = Desk()
        self.check_error(NothingLeft, {}, desk.undo)
        self.check_error(NothingLeft, {}, desk.redo)
        desk.add_station("a")
        self.check_error(NothingLeft, {}, desk.redo)


class RandomCalls(DeskCase):
    """Random calls, on a desk and on a plain one that does everything anew."""

    def things(self):
        lines = [supposed_line(Line(shares), shares) for shares in LINES[:12]]
        return lines + [supposed_web(web_of(sample), sample) for sample in WEBS[:12]]

    def check_call(self, method, plain, arguments):
        error, expected = plain
        try:
            found = method(*arguments)
        except TracerError as caught:
            self.assertIsNotNone(error, (method, arguments))
            self.assertEqual(caught.__class__.__name__, error[0])
            values = [value for key, value in vars(caught).items() if key != "weights"]
            self.assertEqual(values, error[1])
        else:
            self.assertIsNone(error, (method, arguments))
            self.assertEqual(found, expected)

    def check_state(self, desk, plain):
        self.assertEqual(desk.text(), plain.text())
        self.assertEqual(desk.stations(), list(plain.now))
        for name, (readings, guesses) in plain.now.items():
            self.check_numbers(desk.readings(name), readings)
            self.assertEqual(desk.standing(name), [guess[0] for guess in guesses if guess[2] is None])
            self.assertEqual(desk.struck(name), [(guess[0], guess[2]) for guess in guesses if guess[2] is not None])

    def check_questions(self, desk, plain):
        for name in plain.now:
            self.assertEqual(desk.telling(name), plain.telling(name))
            for tick in (0, 1, 2, 3, 9):
                found = desk.agreed(name, tick)
                self.assertEqual(found if found is None else theirs(found), plain.agreed(name, tick))

    def next_reading(self, chance, plain, name, things):
        if name in plain.now and chance.random() < 0.8:
            tick = len(plain.now[name][0])
            standing = plain.standing(name)
            if standing and chance.random() < 0.8:
                return ours(chance.choice(standing)[1].readings[tick])
            return ours(chance.choice(things).readings[tick])
        return chance.choice([0, 1, HALF, QUARTER, Fraction(3, 8), Fraction(-1, 2), 2])

    def fitting(self, chance, plain, name, things):
        """The things that fit the readings of a station, or sometimes all things."""
        if name not in plain.now or chance.random() < 0.3:
            return things
        readings = plain.now[name][0]
        return [thing for thing in things if thing.readings[:len(readings)] == readings] or things

    def run_calls(self, seed, many):
        chance, things = random.Random(seed), self.things()
        desk, plain = Desk(), PlainDesk()
        for turn in range(many):
            names = list("aabbc") + ["A"] * (turn % 7 == 0)
            name, label = chance.choice(names), chance.choice(list("uvwxyz") + [""] * (turn % 5 == 0))
            kind = "add" if turn < 6 else chance.choice(KINDS_OF_CALLS)
            if kind == "add":
                self.check_call(desk.add_station, plain.change("add_station", name), (name,))
            elif kind == "suppose":
                thing = chance.choice(self.fitting(chance, plain, name, things))
                self.check_call(desk.suppose, plain.change("suppose", name, label, thing), (name, label, thing.thing))
            elif kind == "drop":
                self.check_call(desk.drop, plain.change("drop", name, label), (name, label))
            elif kind == "note":
                reading = self.next_reading(chance, plain, name, things)
                self.check_call(desk.note, plain.change("note", name, reading), (name, reading))
            elif kind == "all":
                notes = [(one, self.next_reading(chance, plain, one, things))
                         for one in chance.sample(names, chance.randrange(3))]
                self.check_call(desk.take_all, plain.change("take_all", notes), (notes,))
            elif kind == "undo":
                self.check_call(desk.undo, plain.undo(), ())
            else:
                self.check_call(desk.redo, plain.redo(), ())
            self.check_state(desk, plain)
            if turn % 10 == 0:
                self.check_questions(desk, plain)

    def test_random_calls(self):
        for seed in range(30):
            self.run_calls(seed, 120)


if __name__ == "__main__":
    unittest.main()
