"""Point 42: names, and what the trees of expressions stand for."""

import fractions
import unittest

from tests.plain import WEBS, PlainCase, all_things, fraction_list, glued_walk, play, theirs, walk, web_of
from tracerline.alike import line_of
from tracerline.errors import BadLine, BadName, BadShare, BadTick, UnknownName
from tracerline.exact import Fraction
from tracerline.language import Names, parse, parting_tick, size, value, written
from tracerline.lines import Line
from tracerline.webs import Web

HALF, THIRD = Fraction(1, 2), Fraction(1, 3)
A, B = ("name", "a"), ("name", "b")
WEB = ([[2, 1], [0, 3]], [], [0, 2])
SHARES = fraction_list("1/2 1/3 0")
# Trees that raise an error of their own when they are evaluated, with the error and its values.
WRONG = [
    (("name", "nobody"), UnknownName, {"name": "nobody"}),
    (("line", [HALF, Fraction(1), Fraction(1)]), BadLine, {"place": 1}),
    (("wait", Fraction(3, 2), A), BadShare, {"share": Fraction(3, 2)}),
    (("every", 0, A), BadTick, {"tick": 0}),
]


def some_names():
    """The names a for a web and b for a line."""
    names = Names()
    names["a"] = web_of(WEB)
    names["b"] = Line(SHARES)
    return names


def web_readings(ticks):
    return [amounts[0] for amounts, lost in play(*WEB, ticks=ticks)]


class NamesCase(PlainCase):
    def test_binding(self):
        names = Names()
        self.assertEqual(len(names), 0)
        self.assertIs("a" in names, False)
        web, line = web_of(WEB), Line([1])
        names["a"] = web
        names["b"] = line
        self.assertIs(names["a"], web)
        self.assertIs(names["b"], line)
        self.assertEqual(len(names), 2)
        self.assertIs("a" in names, True)
        self.assertIs("c" in names, False)

    def test_binding_again(self):
        names = some_names()
        names["a"] = Line([0])
        self.assertEqual(names["a"], Line([0]))
        self.assertEqual(len(names), 2)
        self.assertEqual(value(A, names), Line([0]))

    def test_two_objects_have_names_of_their_own(self):
        some_names()
        self.assertEqual(len(Names()), 0)
        self.assertNotIn("a", Names())

    def test_names_of_1_and_of_8_letters(self):
        names = Names()
        for name in ("z", "abcdefgh", "zzzzzzzz", "mixed", "mi", "pairs", "everyone", "frontx", "line", "name", "web"):
            names[name] = Line([1])
            self.assertIn(name, names)
        self.assertEqual(len(names), 11)

    def test_wrong_names(self):
        names = some_names()
        for name in ("", "abcdefghi", "A", "aB", "a1", "a b", " a", "a ", "a-", "a\n", "_a", "1", "mix", "pair", "every",
                     "wait", "fade", "glue", "front"):
            self.check_error(BadName, {"name": name}, names.__setitem__, name, Line([1]))
            self.check_error(UnknownName, {"name": name}, names.__getitem__, name)
            self.assertNotIn(name, names)
        self.assertEqual(len(names), 2)

    def test_unknown_names(self):
        names = some_names()
        for name in ("c", "ab", "abcdefgh"):
            self.check_error(UnknownName, {"name": name}, names.__getitem__, name)
        self.assertEqual(len(names), 2)

    def test_names_are_not_iterated_over(self):
        with self.assertRaises(TypeError):
            iter(some_names())


class Value(PlainCase):
    def check_readings(self, tree, expected):
        line = value(tree, some_names())
        self.assertIs(line.__class__, Line)
        self.assertEqual(walk(line.shares(), len(expected) - 1), expected)

    def test_names(self):
        self.check_readings(A, web_readings(20))
        self.check_readings(B, walk(SHARES, 20))
        names = Names()
        for thing in all_things():
            names["x"] = thing
            self.assertEqual(value(("name", "x"), names), line_of(thing))

    def test_lines(self):
        self.check_readings(("line", SHARES), walk(SHARES, 20))
        self.assertEqual(value(tree=parse("[3/4, 2/3, 1]"), names=Names()), Line(fraction_list("3/4 2/3 1")))

    def test_every_word(self):
        one, two = web_readings(60), walk(SHARES, 60)
        third = fractions.Fraction(1, 3)
        self.check_readings(("mix", THIRD, A, B), [third * left + 2 * third * right for left, right in zip(one, two)][:21])
        self.check_readings(("pair", A, B), [left * right for left, right in zip(one, two)][:21])
        self.check_readings(("every", 3, A), one[::3])
        self.check_readings(("fade", THIRD, A), [third ** tick * reading for tick, reading in enumerate(one[:21])])
        shares = value(A, some_names()).shares()
        self.check_readings(("glue", THIRD, A, B), glued_walk(THIRD, shares, SHARES, 20))
        self.check_readings(("front", HALF, THIRD, B), walk(fraction_list("1/2 1/3") + SHARES, 20))

    def test_waiting(self):
        shares = value(("wait", THIRD, ("line", fraction_list("1/2 1"))), Names()).shares()
        # A unit moves to and fro between the two halves of what is there, with a third of everything.
        readings = [fractions.Fraction(1)]
        for _ in range(12):
            readings.append(readings[-1] * 2 / 3 + fractions.Fraction(1, 6))
        self.assertEqual(walk(shares, 12), readings)

    def test_trees_within_trees(self):
        tree = parse("mix(1/3, fade(1/2, a), every(2, pair(b, [1/2, 1])))")
        one, two, three = web_readings(40), walk(SHARES, 40), walk(fraction_list("1/2 1"), 40)
        expected = [one[tick] / 2 ** tick / 3 + two[2 * tick] * three[2 * tick] * 2 / 3 for tick in range(20)]
        self.check_readings(tree, expected)

    def test_deep_trees(self):
        names = Names()
        names["one"] = Line([1])
        for inner in (("line", [Fraction(1)]), ("name", "one")):
            tree = inner
            for _ in range(20):
                tree = ("fade", Fraction(1, 2), tree)
            self.assertEqual(value(tree, names), Line([Fraction(1, 2 ** 20), 0]))
            self.assertEqual(size(tree, names), 1)
        self.assertEqual(parse(written(tree)), tree)

    def test_integers_among_the_numbers(self):
        self.assertEqual(value(("wait", 1, B), some_names()), Line(SHARES))
        self.assertEqual(value(("mix", 0, A, B), some_names()), Line(SHARES))
        self.assertEqual(value(("line", [0]), some_names()), Line([0]))

    def test_nothing_changes(self):
        shares, names = list(SHARES), some_names()
        tree = ("pair", ("line", shares), A)
        value(tree, names)
        self.assertEqual((shares, len(names)), (SHARES, 2))


class ValueErrors(PlainCase):
    def check_tree(self, kind, values, tree):
        self.check_error(kind, values, value, tree, some_names())

    def test_each_error(self):
        for tree, kind, values in WRONG:
            self.check_tree(kind, values, tree)
        self.check_tree(BadLine, {"place": 0}, ("line", [Fraction(2)]))
        self.check_tree(BadLine, {"place": 1}, ("line", [HALF, THIRD]))

    def test_ranges(self):
        for share in (Fraction(-1, 9), Fraction(10, 9)):
            for tree in (("mix", share, A, B), ("wait", share, A), ("fade", share, A), ("glue", share, A, B),
                         ("front", share, HALF, A), ("front", HALF, share, A)):
                self.check_tree(BadShare, {"share": share}, tree)
        for share in (Fraction(0), Fraction(1)):
            for tree in (("front", share, HALF, A), ("front", HALF, share, A)):
                self.check_tree(BadShare, {"share": share}, tree)
            for tree in (("mix", share, A, B), ("wait", share, A), ("fade", share, A), ("glue", share, A, B)):
                self.assertIs(value(tree, some_names()).__class__, Line)
        self.check_tree(BadShare, {"share": Fraction(0)}, ("front", Fraction(0), Fraction(1), A))
        for step in (0, -1):
            self.check_tree(BadTick, {"tick": step}, ("every", step, A))

    def test_numbers_are_checked_before_trees(self):
        for tree, _, _ in WRONG:
            for outer in (("mix", Fraction(2), tree, A), ("mix", Fraction(2), A, tree), ("wait", Fraction(2), tree),
                          ("fade", Fraction(2), tree), ("glue", Fraction(2), tree, tree),
                          ("front", HALF, Fraction(2), tree)):
                self.check_tree(BadShare, {"share": Fraction(2)}, outer)
            self.check_tree(BadTick, {"tick": -1}, ("every", -1, tree))

    def test_trees_are_evaluated_from_left_to_right(self):
        for tree, kind, values in WRONG:
            for other, _, _ in WRONG:
                for outer in (("mix", HALF, tree, other), ("pair", tree, other), ("glue", HALF, tree, other)):
                    self.check_tree(kind, values, outer)
            for outer in (("mix", HALF, A, tree), ("pair", A, tree), ("glue", HALF, A, tree), ("every", 2, tree),
                          ("wait", HALF, tree), ("fade", HALF, tree), ("front", HALF, THIRD, tree)):
                self.check_tree(kind, values, outer)

    def test_the_numbers_of_a_tree_further_left_come_first(self):
        inner = ("wait", Fraction(5), ("name", "nobody"))
        self.check_tree(BadShare, {"share": Fraction(5)}, ("pair", inner, ("every", 0, A)))
        self.check_tree(UnknownName, {"name": "nobody"}, ("pair", ("name", "nobody"), inner))


class Size(PlainCase):
    def check_size(self, text, expected):
        found = size(parse(text), some_names())
        self.assertIs(found.__class__, int)
        self.assertEqual(found, expected)

    def test_every_word(self):
        for text, expected in (
            ("a", 2), ("b", 2), ("[1]", 1), ("[0]", 1), ("[1/2, 0]", 1), ("[1/2, 1]", 2), ("[1/2, 1/3, 1/4, 0]", 2),
            ("mix(1/2, a, [1])", 3), ("pair(a, mix(1/2, a, [1]))", 6), ("every(9, a)", 2), ("wait(1/2, a)", 2),
            ("fade(1/2, a)", 2), ("glue(1/2, a, b)", 3), ("glue(1/2, [1], [0])", 1), ("front(1/2, 1/2, a)", 3),
            ("mix(1/2, front(1/2, 1/2, [1]), pair(a, glue(1/2, b, [1])))", 6),
        ):
            self.check_size(text, expected)

    def test_names_count_all_rooms_of_a_web(self):
        names = Names()
        for sample in WEBS:
            names["x"] = web_of(sample)
            self.assertEqual(size(tree=("name", "x"), names=names), len(sample[0]))

    def test_the_value_has_no_more_rooms(self):
        for text in ("a", "mix(1/2, a, b)", "pair(a, b)", "every(3, a)", "glue(1/3, a, b)", "front(1/2, 1/3, a)",
                     "wait(1/3, pair(a, a))", "mix(1/2, a, a)"):
            self.assertLessEqual(value(parse(text), some_names()).rooms, size(parse(text), some_names()))

    def test_numbers_out_of_range_do_not_matter(self):
        for text, expected in (("mix(7, a, b)", 4), ("every(0, a)", 2), ("wait(3/2, a)", 2), ("fade(9, a)", 2),
                               ("glue(2, a, b)", 3), ("front(0, 5, a)", 3)):
            self.check_size(text, expected)
        self.assertEqual(size(("every", -4, ("wait", Fraction(-1), A)), some_names()), 2)

    def test_errors(self):
        names = some_names()
        self.check_error(UnknownName, {"name": "c"}, size, ("name", "c"), names)
        self.check_error(BadLine, {"place": 1}, size, ("line", [HALF, THIRD]), names)
        wrong_line, wrong_name = ("line", [Fraction(2)]), ("name", "c")
        for word in (("mix", Fraction(9)), ("pair",), ("glue", HALF)):
            self.check_error(BadLine, {"place": 0}, size, word + (wrong_line, wrong_name), names)
            self.check_error(UnknownName, {"name": "c"}, size, word + (wrong_name, wrong_line), names)
            self.check_error(UnknownName, {"name": "c"}, size, word + (A, wrong_name), names)
        for word in (("every", 0), ("wait", Fraction(3)), ("fade", HALF), ("front", Fraction(0), Fraction(0))):
            self.check_error(BadLine, {"place": 0}, size, word + (wrong_line,), names)


class PartingTick(PlainCase):
    def test_equal_values(self):
        names = some_names()
        for one, two in (("a", "a"), ("mix(1/2, a, a)", "a"), ("wait(0, a)", "[1]"), ("fade(0, b)", "[0]"),
                         ("pair(a, b)", "pair(b, a)"), ("every(2, every(3, a))", "every(6, a)")):
            self.assertIsNone(parting_tick(parse(one), parse(two), names))

    def test_first_tick_at_which_the_readings_differ(self):
        names = some_names()
        texts = ["a", "b", "[1]", "[0]", "mix(1/2, a, b)", "[1/2, 1/3, 1]", "[1/2, 1/3, 1/2, 1]", "every(2, a)"]
        for one in texts:
            for two in texts:
                found = parting_tick(tree=parse(one), other=parse(two), names=names)
                left, right = (value(parse(text), names).readings(20) for text in (one, two))
                expected = [tick for tick in range(21) if theirs(left[tick]) != theirs(right[tick])]
                self.assertEqual(found, expected[0] if expected else None)

    def test_example(self):
        names = Names()
        names["a"] = Line([1])
        self.assertEqual(parting_tick(parse("fade(1/2, a)"), parse("[1/2, 1/3, 0]"), names), 2)

    def test_the_first_tree_is_evaluated_first(self):
        for tree, kind, values in WRONG:
            for other, _, _ in WRONG:
                self.check_error(kind, values, parting_tick, tree, other, some_names())
            self.check_error(kind, values, parting_tick, A, tree, some_names())

    def test_webs_that_are_alike(self):
        names = Names()
        names["one"] = Web.shut([[1, 1], [0, 1]])
        names["two"] = Web.shut([[2, 1, 1], [0, 1, 1]])
        self.assertIsNone(parting_tick(("name", "one"), ("name", "two"), names))


if __name__ == "__main__":
    unittest.main()
