"""Lines that are made from lines, told by what becomes of the readings.

Each result has the readings of a web with a known number of rooms. Twice as many ticks settle the readings of such a
web, so the readings up to that tick are enough to find the line.
"""

from tracerline.errors import BadShare, BadTick
from tracerline.exact import Fraction
from tracerline.lines import Line
from tracerline.reader import explained
from tracerline.returns import readings_of, returns_of


def mixed(share, line, other):
    """The line with share times the reading of the line plus 1 - share times that of the other one."""
    return mixture((share, line), (1 - share, other))


def mixture(*parts):
    """The line with the sum of share times reading over the parts, which are tuples (share, line)."""
    _check_parts(parts)
    ticks = 2 * sum([line.rooms for _, line in parts])
    readings = [Fraction(0)] * (ticks + 1)
    for share, line in parts:
        readings = [so_far + share * more for so_far, more in zip(readings, line.readings(ticks))]
    return explained(readings)


def paired(line, other):
    """The line with the product of the two readings at the same tick."""
    ticks = 2 * line.rooms * other.rooms
    return explained([one * two for one, two in zip(line.readings(ticks), other.readings(ticks))])


def every(step, line):
    """The line that has at the tick t the reading of the line at the tick step * t. Raises BadTick(step)."""
    check_step(step)
    return explained(line.readings(2 * line.rooms * step)[::step])


def waiting(share, line):
    """The line of which in each tick only the part share moves, while the rest stays where it is."""
    check_share(share)
    # After t rounds the entry j of the row is the sum over i of (t over i) share ** i (1 - share) ** (t - i) times the
    # reading of the line at j + i: so its first entry is the reading at the tick t.
    row = line.readings(2 * line.rooms)
    readings = []
    while row:
        readings.append(row[0])
        row = [(1 - share) * here + share * ahead for here, ahead in zip(row, row[1:])]
    return explained(readings)


def fading(share, line):
    """The line with share ** t times the reading of the line at t."""
    check_share(share)
    readings = []
    power = Fraction(1)
    for reading in line.readings(2 * line.rooms):
        readings.append(power * reading)
        power = power * share
    return explained(readings)


def glued(share, line, other):
    """The line and the other one, joined at room 0: the part share of all that leaves room 0 goes into the line."""
    check_share(share)
    # The two lines have room 0 in common.
    ticks = 2 * (line.rooms + other.rooms - 1)
    firsts, seconds = returns_of(line.readings(ticks)), returns_of(other.readings(ticks))
    returns = [share * one + (1 - share) * two for one, two in zip(firsts, seconds)]
    return explained(readings_of(returns))


def fronted(first, second, line):
    """The line with a room and a passage in front of it, which have the shares first and second."""
    check_inner(first)
    check_inner(second)
    return Line([first, second] + line.shares())


def check_share(share):
    """Raise BadShare if the number is not from 0 to 1."""
    if share < 0 or share > 1:
        raise BadShare(share)


def check_inner(share):
    """Raise BadShare if the number is not strictly between 0 and 1."""
    if share <= 0 or share >= 1:
        raise BadShare(share)


def check_step(step):
    """Raise BadTick if the step is below 1."""
    if step < 1:
        raise BadTick(step)


def _check_parts(parts):
    """Raise BadShare with the first share of the parts that is not from 0 to 1, or with their sum if it is not 1."""
    total = Fraction(0)
    for share, _ in parts:
        check_share(share)
        total = total + share
    if total != 1:
        raise BadShare(total)
