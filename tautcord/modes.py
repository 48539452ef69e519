"""Modes: the heights of a cord at its worths, weighed against one another, and rows parted over them."""

from tautcord.errors import NoWorth
from tautcord.ratios import is_rising, over, plus, side, times
from tautcord.walks import walked


def heights(cord, t):
    return heights_of(walked(cord, t))


def heights_of(steps):
    # Behind the last gap stands the far peg, behind each other one a bead.
    return [step[0] for step in steps[:-1]]


def mode(cord, end, t):
    steps = walked(cord, t)
    last = steps[-1][0] if end == "held" else steps[-1][1]
    if side(last) != 0:
        raise NoWorth("the number is no worth of the cord with this end")
    return heights_of(steps)


def weighed(cord, one, other):
    whole = (0, 1)
    for place, weight in enumerate(cord.weights()):
        whole = plus(whole, times(weight, times(one[place], other[place])))
    return whole


def shares_of(cord, end, worths, row):
    # As many unlike worths as beads are all of them.
    if len(worths) != cord.beads() or not is_rising(worths):
        raise NoWorth("the list is not that of all worths, rising")
    return [share(cord, mode(cord, end, worth), row) for worth in worths]


def share(cord, shape, row):
    # All other modes weigh 0 against this one: of the row only its part in this mode weighs.
    return over(weighed(cord, row, shape), weighed(cord, shape, shape))
