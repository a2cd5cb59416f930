"""What a tick moves, as integers over a common scale: so no amount has to be reduced before it is shown."""

from tracerline.exact import common_bottom, over_bottom


def scaled_rows(parts):
    """Rows of Fractions as rows of integers, and the scale over which these integers are the Fractions."""
    scale = common_bottom([part for row in parts for part in row])
    return [[over_bottom(part, scale) for part in row] for row in parts], scale


def sent(amounts, parts, many):
    """What arrives at so many places if each amount is sent away by its row of parts."""
    arrived = [0] * many
    for amount, row in zip(amounts, parts):
        for place, part in enumerate(row):
            arrived[place] = arrived[place] + amount * part
    return arrived
