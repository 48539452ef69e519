"""Spans: a worth of a cord closed in between two fractions."""

from tautcord.counts import up_to
from tautcord.errors import NoWorth
from tautcord.ratios import over, plus, times


def span(cord, end, k, halvings):
    if k < 1 or k > cord.beads():
        raise NoWorth("there are as many worths as beads, counted from 1 on")
    low = (0, 1)
    high = above_all(cord)
    for halving in range(halvings):
        middle = times(plus(low, high), (1, 2))
        if up_to(cord, end, middle) >= k:
            high = middle
        else:
            low = middle
    return (low, high)


def above_all(cord):
    # All worths together come to this with the end held, and to less with it loose.
    pulls = [over((1, 1), gap) for gap in cord.gaps()]
    whole = (0, 1)
    for place, weight in enumerate(cord.weights()):
        whole = plus(whole, over(plus(pulls[place], pulls[place + 1]), weight))
    return whole
