"""Words of letters from a to z."""

LETTERS = "abcdefghijklmnopqrstuvwxyz"
MOST_LETTERS = 8


def letters_end(text, start):
    """The index behind the letters that begin at the index start, MOST_LETTERS of them at most."""
    end = start
    while end < len(text) and end - start < MOST_LETTERS and text[end] in LETTERS:
        end = end + 1
    return end


def is_short_word(text):
    """Whether the text consists of 1 to MOST_LETTERS letters."""
    return text != "" and letters_end(text, 0) == len(text)
