"""Expressions that are made and checked character by character, without the program's parser."""

import fractions

from tests.plain import ours

KINDS = {
    "mix": ["share", "tree", "tree"],
    "pair": ["tree", "tree"],
    "every": ["step", "tree"],
    "wait": ["share", "tree"],
    "fade": ["share", "tree"],
    "glue": ["share", "tree", "tree"],
    "front": ["share", "share", "tree"],
}


def letters(character):
    return "a" <= character <= "z"


def digits(character):
    return "0" <= character <= "9"


class Machine:
    """Takes the characters of an expression one by one, with a stack of what is still missing behind the next part.

    The state is what may come next: "tree", "share" or "step" (spaces may stand before it), "word" (within letters),
    "numeral" (within the first numeral of a share, or that of a step), "slash" and "bottom" (behind a slash, and within
    the second numeral), "name" (letters that are no word have ended), "call" (a word has ended) or "done".
    """

    def __init__(self):
        self.state = "tree"
        self.stack = []
        self.run = ""
        self.kind = "tree"

    def take(self, character):
        """Whether the text is still the beginning of a valid one with this character behind it."""
        return getattr(self, "take_" + self.state)(character)

    def complete(self):
        word = self.state == "word" and self.run not in KINDS
        return not self.stack and (self.state in ("done", "name") or word)

    def take_tree(self, character):
        if character == " ":
            return True
        if character == "[":
            return self.open(["share", "]"])
        self.state, self.run = "word", character
        return letters(character)

    def open(self, missing):
        if len(self.stack) == 20:
            return False
        self.stack.append(missing)
        self.begin()
        return True

    def begin(self):
        self.state = self.kind = self.stack[-1].pop(0)

    def take_word(self, character):
        if letters(character):
            self.run += character
            return len(self.run) <= 8
        self.state = "call" if self.run in KINDS else "done"
        return self.take(character)

    def take_call(self, character):
        if character == " ":
            return True
        return character == "(" and self.open(KINDS[self.run] + [")"])

    def take_share(self, character):
        if character == " ":
            return True
        self.state, self.run = "numeral", character
        return digits(character)

    take_step = take_share

    def take_numeral(self, character):
        if digits(character):
            self.run += character
            return self.run[0] != "0" and len(self.run) <= 60
        if character == "/":
            self.state = "slash"
            return self.kind == "share"
        self.state = "done"
        return self.take(character)

    def take_slash(self, character):
        self.state, self.run = "bottom", character
        return digits(character) and character != "0"

    def take_bottom(self, character):
        if digits(character):
            self.run += character
            return len(self.run) <= 60
        self.state = "done"
        return self.take(character)

    def take_done(self, character):
        if character == " ":
            return True
        if not self.stack:
            return False
        missing = self.stack[-1]
        if character == "," and missing[0] == "]":
            self.state = self.kind = "share"
            return True
        if character == "," and missing[0] not in "])":
            self.begin()
            return True
        if character == missing[0]:
            self.stack.pop()
            return True
        return False


def wrong_column(text):
    """The column of BadText for the text, None if it is valid."""
    machine = Machine()
    for column, character in enumerate(text, start=1):
        if not machine.take(character):
            return column
    return None if machine.complete() else len(text) + 1


def random_tree(chance, depth):
    """A tree with numbers of all sizes."""
    word = chance.choice(list(KINDS) + ["name", "line"]) if depth else chance.choice(["name", "line"])
    if word == "name":
        return ("name", chance.choice(["a", "b", "abcdefgh", "mixed", "fro", "line", "name"]))
    if word == "line":
        return ("line", [random_share(chance) for _ in range(chance.randrange(1, 4))])
    parts = [word]
    for kind in KINDS[word]:
        if kind == "tree":
            parts.append(random_tree(chance, depth - 1))
        else:
            parts.append(random_share(chance) if kind == "share" else chance.randrange(12))
    return tuple(parts)


def random_share(chance):
    return ours(fractions.Fraction(chance.randrange(30), chance.randrange(1, 12)))


def spaced(chance, text):
    """The text of an expression with spaces put in where they are allowed."""
    found = []
    for character in text.replace(" ", ""):
        if character in "(),[]":
            character = " " * chance.randrange(3) + character + " " * chance.randrange(3)
        found.append(character)
    return " " * chance.randrange(3) + "".join(found) + " " * chance.randrange(3)
