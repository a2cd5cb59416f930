"""First returns: what comes back to room 0 for the first time at each tick."""

from tracerline.exact import Fraction


def returns_of(readings):
    """The first returns f(0) = 0, f(1), .. of readings that begin with 1, one for each reading."""
    returns = [Fraction(0)]
    for tick in range(1, len(readings)):
        returns.append(readings[tick] - come_again(returns, readings, tick))
    return returns


def readings_of(returns):
    """The readings r(0) = 1, r(1), .. with these first returns, one for each entry."""
    readings = [Fraction(1)]
    for tick in range(1, len(returns)):
        readings.append(come_again(returns, readings, tick))
    return readings


def come_again(returns, readings, tick):
    """The sum of f(j) r(tick - j) over j from 1 to the tick, or to the last of the first returns if that is less."""
    amount = Fraction(0)
    for back, part in enumerate(returns[1:tick + 1], start=1):
        amount = amount + part * readings[tick - back]
    return amount
