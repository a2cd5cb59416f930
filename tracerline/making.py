"""Webs that are made from webs. Each is the web of the line with the readings that are asked for."""

from tracerline.alike import line_of
from tracerline.lineops import every, fading, fronted, glued, paired, waiting


def paired_web(web, other):
    """A web with the product of the two readings at the same tick."""
    return paired(line_of(web), line_of(other)).web()


def every_web(step, web):
    """A web that has at the tick t the reading of the web at the tick step * t."""
    return every(step, line_of(web)).web()


def waiting_web(share, web):
    """A web of which in each tick only the part share moves, while the rest stays where it is."""
    return waiting(share, line_of(web)).web()


def fading_web(share, web):
    """A web with share ** t times the reading of the web at t."""
    return fading(share, line_of(web)).web()


def glued_web(share, web, other):
    """The web and the other one, joined at room 0: the part share of all that leaves room 0 goes into the web."""
    return glued(share, line_of(web), line_of(other)).web()


def fronted_web(first, second, web):
    """A web with a room and a passage in front of the line of the web."""
    return fronted(first, second, line_of(web)).web()
