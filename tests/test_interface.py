"""The opening paragraph of the interface: names, parameters, defaults, and where each thing is defined."""

import inspect
import unittest

from tracerline import alike as alike_module
from tracerline import booktext, errors, exact, language, lineops, lines, making, oneway, papers, polynomials, reader
from tracerline import desk as desk_module
from tracerline import facts as facts_module
from tracerline import later as later_module
from tracerline import webs, weights
from tracerline.alike import alike, groups, last_needed, line_of, parting, seen_apart
from tracerline.booktext import read_desk
from tracerline.desk import Desk
from tracerline.exact import Fraction, read_fraction
from tracerline.facts import (
    Clash, Facts, facts_of, fit, forecast, later_with, least_total, least_web, settled_by,
)
from tracerline.language import Names, parse, parting_tick, size, value, written
from tracerline.later import fewest, later, limit_between, reached, worth_between
from tracerline.lineops import every, fading, fronted, glued, mixed, mixture, paired, waiting
from tracerline.lines import Line
from tracerline.making import every_web, fading_web, fronted_web, glued_web, paired_web, waiting_web
from tracerline.oneway import OneWay, delay_row, first_returns, next_one_way, one_way_of, returned, verdict
from tracerline.papers import Paper, holds, paper_for
from tracerline.polynomials import Polynomial
from tracerline.reader import Reader, explained
from tracerline.webs import Web
from tracerline.weights import Weights, end_weights

FRACTION_METHODS = [
    "__init__", "__add__", "__radd__", "__sub__", "__rsub__", "__mul__", "__rmul__", "__neg__", "__abs__", "__bool__",
    "__eq__", "__ne__", "__lt__", "__le__", "__gt__", "__ge__", "__str__", "over",
]
POLYNOMIAL_METHODS = [
    "__init__", "__len__", "__getitem__", "__call__", "__add__", "__sub__", "__mul__", "__neg__", "__eq__", "__ne__",
    "degree", "coefficients", "scaled", "raised", "divided", "sum_over", "power",
]


WEB_METHODS = [
    "__init__", "width", "room_total", "passage_total", "after", "lost", "moved", "readings", "ticking", "shut",
]
LINE_METHODS = [
    "__init__", "__len__", "__getitem__", "__call__", "__eq__", "__ne__", "shares", "readings", "web", "limit",
    "worth", "cut",
]
WEIGHTS_METHODS = [
    "__init__", "FORMS", "degree", "__call__", "polynomial", "half", "sum_over", "bars", "times_x", "times_rest",
]
READER_METHODS = [
    "__init__", "__contains__", "last_tick", "low", "high", "gap", "settled", "take", "take_back", "shares",
    "readings", "as_line",
]
NAMES_METHODS = ["__init__", "__getitem__", "__setitem__", "__contains__", "__len__"]
DESK_METHODS = [
    "__init__", "__len__", "__contains__", "add_station", "stations", "readings", "between", "suppose", "standing",
    "struck", "drop", "note", "take_all", "telling", "agreed", "undo", "redo", "text",
]
METHODS = [
    (Fraction, FRACTION_METHODS), (Polynomial, POLYNOMIAL_METHODS), (Web, WEB_METHODS), (Line, LINE_METHODS),
    (Weights, WEIGHTS_METHODS), (Reader, READER_METHODS), (Paper, ["__init__", "KINDS", "value"]),
    (Names, NAMES_METHODS), (OneWay, ["__init__", "table", "readings"]), (Desk, DESK_METHODS), (Facts, ["__init__"]),
]
PLACES = [
    (exact, [Fraction, read_fraction]), (polynomials, [Polynomial]), (webs, [Web]), (lines, [Line]),
    (weights, [Weights, end_weights]), (reader, [Reader, explained]),
    (later_module, [later, reached, worth_between, limit_between, fewest]),
    (papers, [Paper, holds, paper_for]),
    (alike_module, [line_of, parting, alike, groups, last_needed, seen_apart]),
    (lineops, [mixed, mixture, paired, every, waiting, fading, glued, fronted]),
    (making, [paired_web, every_web, waiting_web, fading_web, glued_web, fronted_web]),
    (language, [Names, parse, written, value, size, parting_tick]),
    (oneway, [OneWay, one_way_of, first_returns, returned, delay_row, verdict, next_one_way]),
    (desk_module, [Desk]),
    (booktext, [read_desk]),
    (facts_module, [Clash, Facts, facts_of, fit, later_with, settled_by, least_web, least_total, forecast]),
]


def parameters(function):
    """The names of the parameters of a function, with the defaults where there are some, "*" before names only."""
    found = []
    for parameter in inspect.signature(function).parameters.values():
        if parameter.kind is inspect.Parameter.KEYWORD_ONLY and "*" not in found:
            found.append("*")
        if parameter.kind is inspect.Parameter.VAR_POSITIONAL:
            found.append("*" + parameter.name)
        elif parameter.default is inspect.Parameter.empty:
            found.append(parameter.name)
        else:
            found.append((parameter.name, parameter.default))
    return found


class Interface(unittest.TestCase):
    def check_parameters(self, expected):
        for function, names in expected:
            self.assertEqual(parameters(function), names, function)

    def test_each_thing_is_defined_in_its_file(self):
        for module, things in PLACES:
            for thing in things:
                self.assertEqual(thing.__module__, module.__name__)
                self.assertIs(getattr(module, thing.__name__), thing)

    def test_each_method_stands_in_its_class(self):
        for owner, names in METHODS:
            for name in names:
                self.assertIn(name, vars(owner), (owner, name))

    def test_kinds_of_methods(self):
        for owner, name in ((Polynomial, "degree"), (Weights, "degree")):
            self.assertIsInstance(vars(owner)[name], property)
        for name in ("last_tick", "low", "high", "gap", "settled"):
            self.assertIsInstance(vars(Reader)[name], property)
        self.assertIsInstance(vars(Polynomial)["power"], staticmethod)
        for owner, name in ((Web, "shut"), (Line, "cut")):
            self.assertIsInstance(vars(owner)[name], classmethod)
        self.assertTrue(inspect.isgeneratorfunction(Web.ticking))

    def test_parameters_of_fractions_and_polynomials(self):
        self.check_parameters([
            (Fraction, ["top", ("bottom", 1)]),
            (Fraction(1).over, ["other"]),
            (read_fraction, ["text"]),
            (Polynomial, [("coefficients", ())]),
            (Polynomial().coefficients, []),
            (Polynomial().scaled, ["number"]),
            (Polynomial().raised, ["k"]),
            (Polynomial().divided, ["divisor"]),
            (Polynomial().sum_over, ["readings"]),
            (Polynomial.power, ["k"]),
            (Polynomial(), ["x"]),
        ])

    def test_parameters_of_webs_lines_and_weights(self):
        web, line, one = Web([[1]]), Line([1]), Weights("1", Polynomial([1]))
        self.check_parameters([
            (Web, ["widths", "*", ("room_leaks", ()), ("passage_leaks", ())]),
            (web.width, ["room", "passage"]),
            (web.room_total, ["room"]),
            (web.passage_total, ["passage"]),
            (web.after, ["ticks", "*", ("start", 0)]),
            (web.lost, ["ticks", "*", ("start", 0)]),
            (web.moved, ["room", "other", "ticks"]),
            (web.readings, ["ticks"]),
            (web.ticking, ["ticks"]),
            (Web.shut, ["widths"]),
            (Line, ["shares"]),
            (line, ["tick"]),
            (line.shares, []),
            (line.readings, ["ticks"]),
            (line.web, []),
            (line.limit, []),
            (line.worth, ["keep"]),
            (Line.cut, ["shares"]),
            (Weights, ["form", "root"]),
            (one, ["x"]),
            (one.polynomial, []),
            (one.half, []),
            (one.sum_over, ["readings"]),
            (one.bars, ["readings"]),
            (one.times_x, []),
            (one.times_rest, []),
            (end_weights, ["shares", "end"]),
        ])

    def test_parameters_of_what_readings_tell(self):
        paper = Paper("least", 0, Weights("1", Polynomial([1])), Polynomial(), Polynomial([1]))
        self.check_parameters([
            (Reader, ["*", ("most", 12)]),
            (Reader().take, ["reading"]),
            (Reader().take_back, []),
            (Reader().shares, []),
            (Reader().readings, []),
            (Reader().as_line, ["*", ("end", 0)]),
            (explained, ["readings", "*", ("end", 0)]),
            (later, ["readings", "tick"]),
            (reached, ["readings", "tick", "value"]),
            (worth_between, ["readings", "keep"]),
            (limit_between, ["readings"]),
            (fewest, ["readings"]),
            (Paper, ["kind", "tick", "weights", "quotient", "rest"]),
            (paper.value, ["readings"]),
            (holds, ["paper", "readings"]),
            (paper_for, ["readings", "tick", "kind"]),
            (line_of, ["thing"]),
            (parting, ["thing", "other"]),
            (alike, ["thing", "other"]),
            (groups, ["things"]),
            (last_needed, ["thing"]),
            (seen_apart, ["things"]),
        ])

    def test_parameters_of_what_makes_lines_and_webs(self):
        self.check_parameters([
            (mixed, ["share", "line", "other"]),
            (mixture, ["*parts"]),
            (paired, ["line", "other"]),
            (every, ["step", "line"]),
            (waiting, ["share", "line"]),
            (fading, ["share", "line"]),
            (glued, ["share", "line", "other"]),
            (fronted, ["first", "second", "line"]),
            (paired_web, ["web", "other"]),
            (every_web, ["step", "web"]),
            (waiting_web, ["share", "web"]),
            (fading_web, ["share", "web"]),
            (glued_web, ["share", "web", "other"]),
            (fronted_web, ["first", "second", "web"]),
            (Names, []),
            (parse, ["text"]),
            (written, ["tree"]),
            (value, ["tree", "names"]),
            (size, ["tree", "names"]),
            (parting_tick, ["tree", "other", "names"]),
        ])

    def test_parameters_of_one_way_webs_and_facts(self):
        web = OneWay([[1]])
        self.check_parameters([
            (OneWay, ["table"]),
            (web.table, []),
            (web.readings, ["ticks"]),
            (one_way_of, ["web"]),
            (first_returns, ["readings"]),
            (returned, ["returns"]),
            (delay_row, ["returns"]),
            (verdict, ["readings"]),
            (next_one_way, ["readings"]),
            (Facts, ["*", ("rooms", None), ("passages", None), ("leaks", None)]),
            (facts_of, ["web"]),
            (fit, ["readings", "facts"]),
            (later_with, ["readings", "tick", "facts"]),
            (settled_by, ["readings", "facts"]),
            (least_web, ["readings", "facts"]),
            (least_total, ["readings"]),
            (forecast, ["readings", "ticks"]),
        ])

    def test_parameters_of_desks(self):
        one = Desk()
        self.check_parameters([
            (Desk, []),
            (one.add_station, ["name"]),
            (one.stations, []),
            (one.readings, ["name"]),
            (one.between, ["name", "tick"]),
            (one.suppose, ["name", "label", "thing"]),
            (one.standing, ["name"]),
            (one.struck, ["name"]),
            (one.drop, ["name", "label"]),
            (one.note, ["name", "reading"]),
            (one.take_all, ["notes"]),
            (one.telling, ["name"]),
            (one.agreed, ["name", "tick"]),
            (one.undo, []),
            (one.redo, []),
            (one.text, []),
            (read_desk, ["text"]),
        ])

    def test_clash_stands_beside_the_other_errors(self):
        self.assertFalse(hasattr(errors, "Clash"))
        self.assertTrue(issubclass(Clash, errors.TracerError))


if __name__ == "__main__":
    unittest.main()
