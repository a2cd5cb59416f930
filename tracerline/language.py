"""Expressions: texts that make lines of lines and webs, and the trees of tuples that they are read into."""

from tracerline.alike import line_of, parting
from tracerline.errors import BadName, BadText, UnknownName
from tracerline.exact import Fraction, numeral_end
from tracerline.letters import is_short_word, letters_end
from tracerline.lineops import (
    check_inner, check_share, check_step, every, fading, fronted, glued, mixed, paired, waiting,
)
from tracerline.lines import Line

# The kinds of the parts behind each word: a share from 0 to 1, one strictly between them, a step, or a tree.
PARTS = {
    "mix": ("share", "tree", "tree"),
    "pair": ("tree", "tree"),
    "every": ("step", "tree"),
    "wait": ("share", "tree"),
    "fade": ("share", "tree"),
    "glue": ("share", "tree", "tree"),
    "front": ("inner", "inner", "tree"),
}
MOST_OPEN = 20


class Names:
    """The meanings of names: webs and lines."""

    def __init__(self):
        self._things = {}

    def __getitem__(self, name):
        if name not in self._things:
            raise UnknownName(name)
        return self._things[name]

    def __setitem__(self, name, thing):
        if not is_short_word(name) or name in PARTS:
            raise BadName(name)
        self._things[name] = thing

    def __iter__(self):
        raise TypeError("names are not iterated over")

    def __contains__(self, name):
        return name in self._things

    def __len__(self):
        return len(self._things)


def parse(text):
    """The tree of the text. Raises BadText(1, column)."""
    tree, end = _read_tree(text, _behind_spaces(text, 0), 0)
    end = _behind_spaces(text, end)
    if end < len(text):
        raise BadText(1, end + 1)
    return tree


# The functions below that read a part of the text take the index at which it begins, and how many parentheses and
# brackets are open there. They return the part and the index behind it. At the end of a text that is cut off they
# raise BadText at the index behind it, as for a wrong character.


def _read_tree(text, start, opened):
    """A name, a line or a word with its parts in parentheses."""
    if text[start:start + 1] == "[":
        return _read_line(text, start, opened)
    end = letters_end(text, start)
    if end == start:
        raise BadText(1, start + 1)
    word = text[start:end]
    if word in PARTS:
        return _read_parts(word, text, end, opened)
    return ("name", word), end


def _read_line(text, start, opened):
    """The shares of a line in square brackets."""
    end = _behind_opening(text, start, "[", opened)
    share, end = _read_share(text, end)
    shares = [share]
    end = _behind_spaces(text, end)
    while text[end:end + 1] == ",":
        share, end = _read_share(text, _behind_spaces(text, end + 1))
        shares.append(share)
        end = _behind_spaces(text, end)
    return ("line", shares), _behind_mark(text, end, "]")


def _read_parts(word, text, start, opened):
    """The tree of a word; its parts in parentheses begin at the index start."""
    end = _behind_opening(text, _behind_spaces(text, start), "(", opened)
    parts = [word]
    for kind in PARTS[word]:
        if len(parts) > 1:
            end = _behind_spaces(text, _behind_mark(text, end, ","))
        part, end = _read_part(kind, text, end, opened + 1)
        parts.append(part)
        end = _behind_spaces(text, end)
    return tuple(parts), _behind_mark(text, end, ")")


def _read_part(kind, text, start, opened):
    """A part of this kind. Only trees have parentheses and brackets of their own."""
    if kind == "tree":
        return _read_tree(text, start, opened)
    if kind == "step":
        return _read_numeral(text, start)
    return _read_share(text, start)


def _read_share(text, start):
    """A numeral, or two numerals with a slash between them, as a Fraction."""
    top, end = _read_numeral(text, start)
    if text[end:end + 1] != "/":
        return Fraction(top), end
    if text[end + 1:end + 2] == "0":
        raise BadText(1, end + 2)
    bottom, end = _read_numeral(text, end + 1)
    return Fraction(top, bottom), end


def _read_numeral(text, start):
    """A numeral as an integer."""
    end = numeral_end(text, start)
    if end == start:
        raise BadText(1, start + 1)
    return int(text[start:end]), end


def _behind_opening(text, start, mark, opened):
    """The index behind an opening mark and the spaces that follow it."""
    if opened == MOST_OPEN:
        raise BadText(1, start + 1)
    return _behind_spaces(text, _behind_mark(text, start, mark))


def _behind_mark(text, start, mark):
    """The index behind the mark that stands at the index start."""
    if text[start:start + 1] != mark:
        raise BadText(1, start + 1)
    return start + 1


def _behind_spaces(text, start):
    """The index behind the spaces that stand at the index start, which may be none."""
    end = start
    while text[end:end + 1] == " ":
        end = end + 1
    return end


def written(tree):
    """The text of the tree."""
    word = tree[0]
    if word == "name":
        return tree[1]
    if word == "line":
        shares = ", ".join([str(share) for share in tree[1]])
        return f"[{shares}]"
    parts = ", ".join([_part_text(kind, part) for kind, part in zip(PARTS[word], tree[1:])])
    return f"{word}({parts})"


def _part_text(kind, part):
    """The text of a part of this kind."""
    if kind == "tree":
        return written(part)
    return str(part)


def value(tree, names):
    """The line of the tree. Raises UnknownName, BadLine, BadShare and BadTick."""
    word = tree[0]
    if word == "name":
        return line_of(names[tree[1]])
    if word == "line":
        return Line(tree[1])
    parts = list(zip(PARTS[word], tree[1:]))
    for kind, part in parts:
        _check_number(kind, part)
    return _made(word, [value(part, names) if kind == "tree" else part for kind, part in parts])


def _check_number(kind, part):
    """Raise BadShare or BadTick if a part of this kind is a number that is out of its range."""
    if kind == "share":
        check_share(part)
    if kind == "inner":
        check_inner(part)
    if kind == "step":
        check_step(part)


def _made(word, parts):
    """The line of a word and its parts, of which the trees have been evaluated."""
    if word == "mix":
        return mixed(parts[0], parts[1], parts[2])
    if word == "pair":
        return paired(parts[0], parts[1])
    if word == "every":
        return every(parts[0], parts[1])
    if word == "wait":
        return waiting(parts[0], parts[1])
    if word == "fade":
        return fading(parts[0], parts[1])
    if word == "glue":
        return glued(parts[0], parts[1], parts[2])
    return fronted(parts[0], parts[1], parts[2])


def size(tree, names):
    """A bound for the rooms of the value of the tree. Raises UnknownName and BadLine."""
    word = tree[0]
    if word == "name":
        return names[tree[1]].rooms
    if word == "line":
        return Line(tree[1]).rooms
    sizes = [size(part, names) for kind, part in zip(PARTS[word], tree[1:]) if kind == "tree"]
    if word == "mix":
        return sizes[0] + sizes[1]
    if word == "pair":
        return sizes[0] * sizes[1]
    if word == "glue":
        return sizes[0] + sizes[1] - 1
    if word == "front":
        return sizes[0] + 1
    return sizes[0]


def parting_tick(tree, other, names):
    """The first tick at which the values of the two trees differ, None if they are equal."""
    return parting(value(tree, names), value(other, names))
