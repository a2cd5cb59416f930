"""Points 13 to 15, and of points 3 to 5 what concerns Web."""

import types
import unittest

from tests.plain import WEBS, PlainCase, play, web_of
from tracerline.errors import BadRoom, BadTick, BadWeb
from tracerline.webs import Web

# (widths, leaks of the rooms, leaks of the passages) with one thing wrong.
WRONG = {
    "rooms": [([], [], [])],
    "uneven": [
        ([[1], [1, 1]], [], []),
        ([[1, 2], [1]], [], []),
        ([[], [1]], [], []),
        ([[1], []], [1, 1], []),
        ([[1, 1], [1, 1], [1]], [], []),
    ],
    "negative": [
        ([[-1]], [], []),
        ([[2, -1], [1, 2]], [], []),
        ([[1, 2], [1, 2], [3, -1]], [], []),
        ([[-1]], [5], [5]),
    ],
    "room_leaks": [
        ([[1], [1]], [1], []),
        ([[1], [1]], [1, 1, 1], []),
        ([[1], [1]], [1, -1], []),
        ([[1], [1]], [-1, 0], []),
        ([[1], [1]], (0, 0, -1), []),
        ([[]], [1, 1], []),
    ],
    "passage_leaks": [
        ([[1, 1]], [], [1]),
        ([[1, 1]], [], [0, 0, 0]),
        ([[1, 1]], [], [0, -1]),
        ([[1, 1]], [], (-1, 0)),
        ([[1, 1], [1, 1], [1, 1]], [], [1, 1, 1]),
        ([[]], [1], [0]),
    ],
    "room": [
        ([[]], [], []),
        ([[], []], [1, 0], []),
        ([[0, 0], [1, 1]], [], []),
        ([[1], [0]], [0, 0], []),
        ([[1], [0]], [5, 0], [5]),
    ],
    "passage": [
        ([[1, 0]], [], []),
        ([[0, 1], [0, 2]], [], []),
        ([[0], [0]], [1, 1], []),
        ([[0, 1], [0, 2]], [3, 3], [0, 9]),
    ],
}

# Two things wrong at once; the first of them is raised.
TWICE_WRONG = {
    "rooms": [([], [-1], []), ([], [1], []), ([], [], [-1]), ([], [], [0])],
    "uneven": [([[-1], [1, 1]], [], []), ([[1], [1, 1]], [-1, 0], []), ([[1], [1, 1]], [], [-1]), ([[0], []], [], [])],
    "negative": [
        ([[-1]], [-1], []), ([[-1]], [], [-1]), ([[-1, 1], [1, 1]], [], []), ([[-1, 5], [1, 1]], [], []),
        ([[0], [-1]], [1, 1], []), ([[5, -1]], [1, 1], [1]),
    ],
    "room_leaks": [
        ([[1]], [-1], [-1]), ([[1]], [1, 1], [1, 1]), ([[0], [1]], [-1, 0], []), ([[0], [1]], [0], []),
        ([[1, 0]], [1, 1], []),
    ],
    "passage_leaks": [
        ([[1], [0]], [0, 0], [-1]), ([[0, 0], [1, 1]], [], [1]), ([[1, 0]], [], [-1, 0]), ([[1, 0]], [], [1]),
    ],
    "room": [([[0, 0], [0, 1]], [], []), ([[0]], [], []), ([[0]], [0], [0])],
}


def starts_and_ticks(sample):
    return [(start, ticks) for start in range(len(sample[0])) for ticks in (0, 1, 2, 3, 7)]


class Making(PlainCase):
    def test_each_reason_alone(self):
        for reason, samples in WRONG.items():
            for sample in samples:
                self.check_error(BadWeb, {"reason": reason}, web_of, sample)

    def test_two_wrong_things(self):
        for reason, samples in TWICE_WRONG.items():
            for sample in samples:
                self.check_error(BadWeb, {"reason": reason}, web_of, sample)

    def test_web_without_a_passage(self):
        web = Web([[]], room_leaks=[2])
        self.assertEqual((web.rooms, web.passages, web.room_total(0)), (1, 0, 2))
        self.check_numbers(web.readings(3), [1, 0, 0, 0])
        self.check_number(web.lost(1), 1)
        two = Web([[], []], room_leaks=[1, 3])
        self.check_numbers(two.after(0, start=1), [0, 1])
        self.check_numbers(two.after(1, start=1), [0, 0])

    def test_leaks_of_every_kind(self):
        widths = [[1, 2], [3, 4]]
        for room_leaks in ([], (), [0, 0], [5, 6], (0, 7)):
            for passage_leaks in ([], (), [0, 0], [8, 9], (1, 0)):
                web = Web(widths, room_leaks=room_leaks, passage_leaks=passage_leaks)
                expected = play(widths, room_leaks, passage_leaks, ticks=3)
                self.check_numbers(web.after(3), expected[3][0])
                self.check_number(web.lost(3), expected[3][1])

    def test_leaks_may_be_left_out(self):
        expected = play([[1, 2], [3, 4]], [5, 6], [], ticks=2)
        self.check_numbers(Web([[1, 2], [3, 4]], room_leaks=[5, 6]).after(2), expected[2][0])
        expected = play([[1, 2], [3, 4]], [], [5, 6], ticks=2)
        self.check_numbers(Web(widths=[[1, 2], [3, 4]], passage_leaks=[5, 6]).after(2), expected[2][0])

    def test_leaks_are_passed_by_name_only(self):
        with self.assertRaises(TypeError):
            Web([[1]], [1])

    def test_rows_may_be_tuples(self):
        for rows in ([(1, 2), (3, 4)], [[1, 2], (3, 4)]):
            web = Web(rows)
            self.assertEqual([web.width(room, passage) for room in (0, 1) for passage in (0, 1)], [1, 2, 3, 4])
            self.check_numbers(web.after(2), play([[1, 2], [3, 4]], ticks=2)[2][0])

    def test_shut(self):
        web = Web.shut([[1, 1], [0, 1]])
        self.assertIs(web.__class__, Web)
        self.check_numbers(web.readings(3), Web([[1, 1], [0, 1]]).readings(3))
        self.assertEqual((web.room_total(0), web.passage_total(1)), (2, 2))
        self.check_number(Web.shut(widths=[[3]]).lost(5), 0)
        for reason in ("rooms", "uneven", "negative", "room", "passage"):
            self.check_error(BadWeb, {"reason": reason}, Web.shut, WRONG[reason][0][0])

    def test_lists_that_were_passed_in_may_change(self):
        widths, room_leaks, passage_leaks = [[2, 1], [0, 3]], [0, 1], [4, 0]
        web = Web(widths, room_leaks=room_leaks, passage_leaks=passage_leaks)
        shut = Web.shut(widths)
        before = web.after(3), shut.after(3), web.room_total(1), web.passage_total(0), web.width(1, 1)
        self.assertEqual((widths, room_leaks, passage_leaks), ([[2, 1], [0, 3]], [0, 1], [4, 0]))
        widths[0][0] = 50
        widths[1].append(7)
        widths.append([1, 1])
        room_leaks[0] = 60
        room_leaks.append(1)
        passage_leaks[1] = 70
        after = web.after(3), shut.after(3), web.room_total(1), web.passage_total(0), web.width(1, 1)
        self.assertEqual(before, after)
        self.assertEqual((web.rooms, web.passages), (2, 2))

    def test_lists_that_were_returned_may_change(self):
        web = web_of(WEBS[5])
        web.after(1).append(5)
        web.after(0)[0] = 5
        web.readings(2).clear()
        self.check_numbers(web.after(0), [1, 0])
        self.check_numbers(web.readings(2), [state[0][0] for state in play(*WEBS[5], ticks=2)])


class Amounts(PlainCase):
    def test_after_and_lost_against_a_play(self):
        for sample in WEBS:
            web = web_of(sample)
            for start, ticks in starts_and_ticks(sample):
                amounts, lost = play(*sample, start=start, ticks=ticks)[ticks]
                self.check_numbers(web.after(ticks, start=start), amounts)
                self.check_number(web.lost(ticks, start=start), lost)

    def test_start_is_room_0_if_it_is_left_out(self):
        for sample in WEBS:
            amounts, lost = play(*sample, ticks=2)[2]
            self.check_numbers(web_of(sample).after(2), amounts)
            self.check_number(web_of(sample).lost(ticks=2), lost)

    def test_nothing_is_lost_at_the_tick_0_or_without_leaks(self):
        for sample in WEBS:
            web = web_of(sample)
            for start in range(web.rooms):
                self.check_number(web.lost(0, start=start), 0)
                if not any(sample[1]) and not any(sample[2]):
                    self.check_number(web.lost(6, start=start), 0)

    def test_moved_between_all_pairs_of_rooms(self):
        for sample in WEBS:
            web = web_of(sample)
            for room, ticks in starts_and_ticks(sample):
                amounts = play(*sample, start=room, ticks=ticks)[ticks][0]
                for other in range(web.rooms):
                    self.check_number(web.moved(room, other, ticks), amounts[other])
        self.check_number(web_of(WEBS[5]).moved(ticks=1, other=1, room=0), play(*WEBS[5], ticks=1)[1][0][1])

    def test_readings_and_ticking(self):
        for sample in WEBS:
            web = web_of(sample)
            expected = [amounts[0] for amounts, lost in play(*sample, ticks=8)]
            for ticks in (0, 1, 2, 8):
                self.check_numbers(web.readings(ticks), expected[:ticks + 1])
                self.check_numbers(list(web.ticking(ticks)), expected[:ticks + 1])

    def test_forty_ticks(self):
        for sample in WEBS:
            web = web_of(sample)
            states = play(*sample, ticks=40)
            self.check_numbers(web.readings(40), [amounts[0] for amounts, lost in states])
            self.check_numbers(web.after(40), states[40][0])
            self.check_number(web.lost(40), states[40][1])

    def test_ticking_is_a_generator(self):
        ticking = web_of(WEBS[5]).ticking(ticks=2)
        self.assertIsInstance(ticking, types.GeneratorType)
        self.check_number(next(ticking), 1)
        self.check_number(next(ticking), play(*WEBS[5], ticks=1)[1][0][0])
        self.assertEqual(len(list(ticking)), 1)
        self.assertEqual(list(ticking), [])

    def test_two_generators_of_one_web(self):
        web = web_of(WEBS[10])
        pairs = list(zip(web.ticking(4), web.ticking(4)))
        self.assertEqual([one for one, other in pairs], web.readings(4))
        self.assertEqual([other for one, other in pairs], web.readings(4))


class WrongArguments(PlainCase):
    def test_negative_ticks(self):
        for sample in WEBS:
            web = web_of(sample)
            for ticks in (-1, -2, -40):
                for function in (web.after, web.lost, web.readings):
                    self.check_error(BadTick, {"tick": ticks}, function, ticks)
                self.check_error(BadTick, {"tick": ticks}, web.moved, 0, 0, ticks)

    def test_ticking_raises_when_it_is_iterated(self):
        ticking = web_of(WEBS[5]).ticking(-1)
        self.check_error(BadTick, {"tick": -1}, next, ticking)
        self.check_error(BadTick, {"tick": -3}, list, web_of(WEBS[5]).ticking(-3))

    def test_wrong_rooms(self):
        for sample in WEBS:
            web = web_of(sample)
            for room in (-1, -web.rooms, web.rooms, web.rooms + 1):
                for ticks in (0, 2):
                    self.check_error(BadRoom, {"room": room}, web.after, ticks, start=room)
                    self.check_error(BadRoom, {"room": room}, web.lost, ticks, start=room)
                    self.check_error(BadRoom, {"room": room}, web.moved, room, 0, ticks)
                    self.check_error(BadRoom, {"room": room}, web.moved, 0, room, ticks)

    def test_the_first_wrong_room_counts(self):
        web = web_of(WEBS[5])
        self.check_error(BadRoom, {"room": -1}, web.moved, -1, 2, 1)
        self.check_error(BadRoom, {"room": 2}, web.moved, 2, -1, 1)
        self.check_error(BadRoom, {"room": 7}, web.moved, ticks=1, other=-5, room=7)

    def test_ticks_count_before_rooms(self):
        web = web_of(WEBS[5])
        for room in (-1, 2):
            self.check_error(BadTick, {"tick": -1}, web.after, -1, start=room)
            self.check_error(BadTick, {"tick": -1}, web.lost, -1, start=room)
            self.check_error(BadTick, {"tick": -1}, web.moved, room, 0, -1)
            self.check_error(BadTick, {"tick": -1}, web.moved, 0, room, -1)
            self.check_error(BadTick, {"tick": -1}, web.moved, room, room, -1)

    def test_start_is_passed_by_name_only(self):
        with self.assertRaises(TypeError):
            web_of(WEBS[5]).after(1, 1)
        with self.assertRaises(TypeError):
            web_of(WEBS[5]).lost(1, 1)


class WidthsAndTotals(PlainCase):
    def test_every_width_and_every_total(self):
        for sample in WEBS:
            widths, room_leaks, passage_leaks = sample
            web = web_of(sample)
            rooms, passages = range(len(widths)), range(len(widths[0]))
            self.assertEqual((web.rooms, web.passages), (len(widths), len(widths[0])))
            for room in rooms:
                leak = room_leaks[room] if room_leaks else 0
                self.assertEqual(web.room_total(room), sum(widths[room]) + leak)
                for passage in passages:
                    self.assertEqual(web.width(room, passage), widths[room][passage])
            for passage in passages:
                leak = passage_leaks[passage] if passage_leaks else 0
                self.assertEqual(web.passage_total(passage), sum(widths[room][passage] for room in rooms) + leak)

    def test_names_of_the_arguments(self):
        web = web_of(WEBS[5])
        self.assertEqual(web.width(passage=1, room=0), 1)
        self.assertEqual(web.room_total(room=1), 3)
        self.assertEqual(web.passage_total(passage=1), 6)

    def test_rooms_and_passages_are_set_on_the_object(self):
        self.assertLessEqual({"rooms", "passages"}, set(vars(web_of(WEBS[12]))))


class Examples(PlainCase):
    def test_examples_of_the_interface(self):
        web = Web([[2, 1], [0, 3]], passage_leaks=[0, 2])
        self.assertEqual([str(amount) for amount in web.after(1)], ["13/18", "1/6"])
        readings = Web.shut([[1, 1], [0, 1]]).readings(3)
        self.assertEqual([str(reading) for reading in readings], ["1", "3/4", "11/16", "43/64"])
        self.check_error(BadWeb, {"reason": "passage_leaks"}, Web, [[1], [0]], room_leaks=[0, 0], passage_leaks=[-1])


if __name__ == "__main__":
    unittest.main()
