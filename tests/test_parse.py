"""Points 40 and 41: texts of expressions and the trees that they are read into."""

import random
import unittest

from tests.expressions import random_tree, spaced, wrong_column
from tests.plain import PlainCase
from tracerline.errors import BadText
from tracerline.exact import Fraction
from tracerline.language import parse, written

HALF, THIRD = Fraction(1, 2), Fraction(1, 3)
A, B = ("name", "a"), ("name", "b")

# Trees and their texts.
SAMPLES = [
    (A, "a"),
    (("name", "abcdefgh"), "abcdefgh"),
    (("line", [Fraction(1)]), "[1]"),
    (("line", [HALF, THIRD, Fraction(0)]), "[1/2, 1/3, 0]"),
    (("mix", THIRD, A, B), "mix(1/3, a, b)"),
    (("pair", A, B), "pair(a, b)"),
    (("every", 2, A), "every(2, a)"),
    (("wait", HALF, A), "wait(1/2, a)"),
    (("fade", Fraction(0), A), "fade(0, a)"),
    (("glue", Fraction(1), A, B), "glue(1, a, b)"),
    (("front", HALF, THIRD, A), "front(1/2, 1/3, a)"),
    (("mix", THIRD, A, ("every", 2, ("line", [HALF, Fraction(1)]))), "mix(1/3, a, every(2, [1/2, 1]))"),
    (("pair", ("glue", HALF, ("pair", A, A), ("line", [Fraction(0)])), ("front", THIRD, HALF, ("fade", HALF, B))),
     "pair(glue(1/2, pair(a, a), [0]), front(1/3, 1/2, fade(1/2, b)))"),
    # Numbers out of their ranges and lists that are no lines.
    (("wait", Fraction(7, 2), A), "wait(7/2, a)"),
    (("front", Fraction(0), Fraction(9), A), "front(0, 9, a)"),
    (("every", 0, A), "every(0, a)"),
    (("line", [Fraction(5), Fraction(0), HALF]), "[5, 0, 1/2]"),
]
# Names that are close to the words, or that are words elsewhere.
NAMES = ["m", "mi", "mixe", "mixmix", "fadefade", "front", "frontx", "everyone", "name", "line", "pairs", "waiting",
         "z", "zzzzzzzz", "tree", "gluee"]
WORDS = ["mix", "pair", "every", "wait", "fade", "glue", "front"]


class ParseCase(PlainCase):
    def check_column(self, text, column):
        self.check_error(BadText, {"line": 1, "column": column}, parse, text)

    def check_kinds(self, tree):
        """The parts of a tree are of the kinds that the document gives."""
        self.assertIs(tree.__class__, tuple)
        if tree[0] == "line":
            self.assertIs(tree[1].__class__, list)
            self.assertEqual({share.__class__ for share in tree[1]}, {Fraction})
            return
        for part in tree[1:]:
            if part.__class__ is tuple:
                self.check_kinds(part)
            else:
                kinds = {"name": str, "every": int}
                self.assertIs(part.__class__, kinds.get(tree[0], Fraction))


class Written(ParseCase):
    def test_every_kind_of_tree(self):
        for tree, text in SAMPLES:
            self.assertEqual(written(tree), text)
            self.assertEqual(written(tree=tree), text)

    def test_numbers_that_no_text_reads_back(self):
        self.assertEqual(written(("wait", Fraction(-1, 2), A)), "wait(-1/2, a)")
        self.assertEqual(written(("every", -3, ("line", [Fraction(-4)]))), "every(-3, [-4])")

    def test_the_tree_is_left_as_it_is(self):
        shares = [HALF, Fraction(1)]
        tree = ("wait", HALF, ("line", shares))
        written(tree)
        self.assertEqual(shares, [HALF, 1])


class Parse(ParseCase):
    def test_every_kind_of_tree(self):
        for tree, text in SAMPLES:
            self.assertEqual(parse(text), tree)
            self.check_kinds(parse(text=text))

    def test_random_trees(self):
        chance = random.Random(40)
        for _ in range(300):
            tree = random_tree(chance, chance.randrange(5))
            text = written(tree)
            self.assertEqual(parse(text), tree)
            self.assertEqual(parse(spaced(chance, text)), tree)
            self.assertEqual(written(parse(spaced(chance, text))), text)

    def test_spaces(self):
        self.assertEqual(parse("  a "), A)
        self.assertEqual(parse(" [ 1/2 , 1 ] "), ("line", [HALF, Fraction(1)]))
        self.assertEqual(parse(" mix ( 1/3 ,a ,  b ) "), ("mix", THIRD, A, B))
        self.assertEqual(parse("every(2,[1/2,1])"), ("every", 2, ("line", [HALF, Fraction(1)])))

    def test_fractions_that_are_not_in_lowest_terms(self):
        self.assertEqual(parse("[2/4, 6/3, 0/5]"), ("line", [HALF, Fraction(2), Fraction(0)]))
        self.assertEqual(written(parse("wait(10/4, a)")), "wait(5/2, a)")

    def test_numerals(self):
        long = "9" * 60
        self.assertEqual(parse(f"wait({long}/{long}, a)"), ("wait", Fraction(1), A))
        self.assertEqual(parse(f"every({long}, a)"), ("every", 10 ** 60 - 1, A))
        self.assertEqual(parse(f"[{long}]"), ("line", [Fraction(10 ** 60 - 1)]))
        self.assertEqual(parse("every(10, a)"), ("every", 10, A))

    def test_names(self):
        for name in NAMES:
            if name not in WORDS:
                self.assertEqual(parse(name), ("name", name))
                self.assertEqual(parse(f"pair({name}, {name} )"), ("pair", ("name", name), ("name", name)))

    def test_twenty_may_be_open(self):
        for opening, closing, inner in (("wait(1, ", ")", "a"), ("pair(a, ", ")", "b"), ("every(1,", ")", "[1]")):
            many = 20 if inner != "[1]" else 19
            tree = parse(opening * many + inner + closing * many)
            for _ in range(many):
                tree = tree[-1]
            self.assertEqual(tree, ("line", [Fraction(1)]) if inner == "[1]" else ("name", inner))
        # Those that are closed again do not count.
        wide = "[1]"
        for _ in range(6):
            wide = f"pair({wide}, {wide})"
        self.assertEqual(written(parse(wide)), wide)

    def test_lists_are_new_on_each_call(self):
        parse("[1/2, 1]")[1].append(7)
        self.assertEqual(parse("[1/2, 1]"), ("line", [HALF, Fraction(1)]))

    def test_examples(self):
        self.assertEqual(written(parse(" pair( a,wait(2/4,b) )")), "pair(a, wait(1/2, b))")
        self.check_column("mix(1/2, a b)", 12)


class WrongTexts(ParseCase):
    def test_nothing(self):
        self.check_column("", 1)
        self.check_column("   ", 4)

    def test_texts_that_are_cut_off_anywhere(self):
        for _, text in SAMPLES + [(None, " mix ( 1/3 , a ,every( 2 ,[ 1/2 , 10 ] ) )")]:
            for end in range(len(text)):
                cut = text[:end]
                column = wrong_column(cut)
                self.assertIn(column, (None, end + 1))
                if column:
                    self.check_column(cut, end + 1)
        # These stop within a part or behind it.
        for text in ("mix", "mix ", "mix(", "mix(1", "mix(1/", "mix(1/2", "mix(1/2,", "mix(1/2, a", "mix(1/2, a,",
                     "mix(1/2, a, b", "mix(1/2, a, b ", "[", "[1", "[1,", "[1/", "[1, 2 ", "every(", "every(2", "pair(",
                     "pair(a", "pair(a, [1]", "front", "front(1/2", "front(1/2, 1/3", "front(1/2, 1/3,"):
            self.check_column(text, len(text) + 1)

    def test_a_character_too_many(self):
        for _, text in SAMPLES:
            for more in (")", "]", ",", "(", "[", "-", "A", "_", "\n"):
                self.check_column(text + more, len(text) + 1)
                self.check_column(text + " " + more, len(text) + 2)
            self.check_column(text + " a", len(text) + 2)
        self.check_column("[1]a", 4)
        self.check_column("pair(a, b)c", 11)
        self.check_column("a1", 2)

    def test_spaces_where_they_are_not_allowed(self):
        for text, column in (("[1 0]", 4), ("[1 /2]", 4), ("[1/ 2]", 4), ("wait(1 1, a)", 8), ("every(1 2, a)", 9),
                             ("mi x(1, a, b)", 4), ("a a", 3), ("wait(1/2 3, a)", 10)):
            self.check_column(text, column)

    def test_numerals(self):
        long = "1" * 61
        for text, column in ((f"[{long}]", 62), (f"[{long}/2]", 62), (f"[1/{long}]", 64), (f"every({long}, a)", 67),
                             ("[01]", 3), ("[00]", 3), ("[1/0]", 4), ("[1/02]", 4), ("[0/0]", 4), ("every(01, a)", 8),
                             ("every(1/2, a)", 8), ("[-1]", 2), ("wait(-1/2, a)", 6), ("every(-1, a)", 7), ("[+1]", 2),
                             ("[1/-2]", 4), ("[1.5]", 3), ("[1/2/3]", 5), ("[/2]", 2), ("wait(a, a)", 6)):
            self.check_column(text, column)

    def test_lists(self):
        for text, column in (("[]", 2), ("[ ]", 3), ("[,1]", 2), ("[1,]", 4), ("[1,,2]", 4), ("[1)", 3), ("[a]", 2),
                             ("[[1]]", 2), ("[1, mix]", 5), ("]", 1)):
            self.check_column(text, column)

    def test_parts(self):
        for text, column in (
            ("mix(a, a, b)", 5), ("mix(1/2, 1/2, a)", 10), ("mix(1/2, a)", 11), ("mix(1/2, a, b, c)", 14),
            ("mix()", 5), ("pair(a)", 7), ("pair(a, b, b)", 10), ("pair(1, a)", 6), ("every(2)", 8),
            ("every(a, 2)", 7), ("wait(1, a, b)", 10), ("fade([1], a)", 6), ("glue(1, a,)", 11), ("front(1/2, a)", 12),
            ("front(1/2, 1/3, 1/4)", 17), ("front(1/2, 1/3, a, b)", 18), ("mix[1/2, a, b]", 4), ("pair(a; b)", 7),
            ("pair(a, b]", 10), ("(a)", 1), ("pair((a), b)", 6), ("a(1, b)", 2), ("a (1, b)", 3), (",", 1), (")", 1),
        ):
            self.check_column(text, column)

    def test_names(self):
        self.check_column("abcdefghi", 9)
        self.check_column("pair(abcdefghi, a)", 14)
        self.check_column("frontfron", 9)
        for text in ("Abc", "Mix(1, a, b)", "_a", "1", "1/2", "-a"):
            self.check_column(text, 1)
        self.check_column("aB", 2)
        self.check_column("mixE(1, a, b)", 4)

    def test_words_are_no_names(self):
        for word in WORDS:
            self.check_column(word, len(word) + 1)
            self.check_column(word + "  ", len(word) + 3)
            self.check_column(word + " a", len(word) + 2)
            self.check_column(f"pair({word}, a)", 6 + len(word))
            self.check_column(f"pair(a, {word} )", 10 + len(word))

    def test_twenty_one_open(self):
        opening = "wait(1, "
        self.check_column(opening * 20 + "wait(1, a)" + ")" * 20, 165)
        self.check_column(opening * 20 + "wait (1, a)" + ")" * 20, 166)
        self.check_column(opening * 20 + "[1]" + ")" * 20, 161)
        self.check_column(opening * 20 + "pair", 165)
        self.check_column(opening * 20 + "pair)", 165)
        self.check_column(opening * 20 + "a", 162)
        self.check_column("pair(a, " * 20 + "pair(a, b)" + ")" * 20, 165)
        # Whatever is wrong ahead of it comes first.
        self.check_column("wait(1; " + opening * 20 + "[1]", 7)

    def test_random_changes_of_texts(self):
        chance = random.Random(41)
        characters = "ab mixpairevywtfdglunot0123/,()[] -A~"
        for _ in range(4000):
            text = spaced(chance, written(random_tree(chance, chance.randrange(4))))
            at = chance.randrange(len(text) + 1)
            text = text[:at] + chance.choice(["", chance.choice(characters)]) + text[at + chance.randrange(2):]
            column = wrong_column(text)
            if column is None:
                self.assertEqual(wrong_column(written(parse(text))), None)
            else:
                self.check_column(text, column)


class TheMachineOfTheTests(unittest.TestCase):
    def test_known_columns(self):
        for text, column in (("mix(1/2, a b)", 12), ("a", None), ("[01]", 3), ("every(1/2, a)", 8), ("abcdefghi", 9),
                             ("", 1), ("pair", 5), ("wait(1, " * 20 + "[1]", 161)):
            self.assertEqual(wrong_column(text), column)


if __name__ == "__main__":
    unittest.main()
