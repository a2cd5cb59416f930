"""The numbers and polynomials that belong to a list of shares, whatever comes behind it."""

from tracerline.exact import Fraction, common_bottom, over_bottom
from tracerline.polynomials import Polynomial


def turns(shares):
    """For each share: the part of the node below that moves up to the node of the share and straight back."""
    found = []
    onward = Fraction(1)
    for share in shares:
        found.append(onward * share)
        onward = 1 - share
    return found


def chain_of(shares):
    """The chain of the shares: the polynomials A(0), B(0), A(1), B(1), .., two more of them than shares."""
    chain = [Polynomial([1]), Polynomial([1])]
    for turn in turns(shares):
        chain.append(next_link(chain, turn))
    return chain


def next_link(chain, turn):
    """The polynomial that follows in the chain."""
    return half_of(chain) - chain[-2].scaled(turn)


def half_of(chain):
    """The last polynomial of the chain, times x if it is one of the B(j); its leading coefficient is 1.

    Take the readings of the line with these shares and the end 0, from any tick on: their sum over this polynomial
    is 0.
    """
    if len(chain) % 2 == 0:
        return chain[-1].raised(1)
    return chain[-1]


def series_of(shares):
    """Two polynomials (upper, lower) of which the power series upper / lower has the readings of the line.

    This is the fraction of the worth of a line, worked out from the innermost part.
    """
    upper = lower = Polynomial([1])
    for turn in turns(shares)[::-1]:
        upper, lower = lower, lower - upper.raised(1).scaled(turn)
    return upper, lower


def expanded(upper, lower, ticks):
    """The coefficients of the power series upper / lower up to x ** ticks, as tuples (top, bottom) of integers.

    The coefficient of x ** 0 of lower is 1. With the scale that makes integers of all coefficients, the coefficient
    of x ** k is an integer over scale ** (k + 1): so nothing has to be reduced on the way.
    """
    scale = common_bottom(upper.coefficients() + lower.coefficients())
    powers = [1]
    for _ in range(ticks + 1):
        powers.append(powers[-1] * scale)
    factors = [over_bottom(lower[k], scale) * powers[k - 1] for k in range(1, min(ticks + 1, len(lower)))]
    tops = []
    for k in range(ticks + 1):
        top = over_bottom(upper[k], scale) * powers[k]
        for back, factor in enumerate(factors[:k], start=1):
            top = top - factor * tops[k - back]
        tops.append(top)
    return [(top, powers[k + 1]) for k, top in enumerate(tops)]
