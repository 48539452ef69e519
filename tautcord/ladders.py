"""The ladder of two polynomials: they are divided in turns, and the quotients are a cord's gaps and weights.

A polynomial is kept here as a tuple (figures, bottom) of whole figures, as many as are due, and one
bottom under all of them. So all of it is brought to lowest terms at once, and not figure by figure.
"""

from tautcord.cords import MOST_BEADS
from tautcord.errors import NoCord
from tautcord.polys import shared_bottom, whole_figures
from tautcord.ratios import fraction, minus, side
from tautcord.wholes import divisor


def ladder(upper, lower):
    if len(upper) != len(lower) or len(upper) < 1 or len(upper) > MOST_BEADS + 1:
        raise NoCord(None)
    if lower[0] != (1, 1):
        raise NoCord(None)
    # Upper and lower take turns: the one is divided by the other, then the other by what is left.
    one = over_one_bottom(upper)
    other = over_one_bottom(lower)
    quotients = []
    for place in range(2 * len(upper) - 1):
        quotient = quotient_at(place, one, other)
        if side(quotient) != 1:
            return (quotients, place)
        quotients.append(quotient)
        rest = rest_of(one, other)
        one = other
        other = rest
    return (quotients, None)


def over_one_bottom(one):
    bottom = shared_bottom(one)
    return (whole_figures(one, bottom), bottom)


def quotient_at(place, one, other):
    last = one[0][-1]
    divided_by = other[0][-1]
    # A last figure of 0 tells that there are fewer figures than due: the place fails as at a quotient of 0.
    if divided_by == 0:
        return (0, 1)
    quotient = fraction(last * other[1], divided_by * one[1])
    if place % 2 == 0:
        return quotient
    return minus((0, 1), quotient)


def rest_of(one, other):
    # At an odd place the other has a figure less and comes in times the number: one power higher.
    lifted = [0] * (len(one[0]) - len(other[0])) + other[0]
    last = one[0][-1]
    divided_by = other[0][-1]
    figures = [divided_by * figure - last * less for figure, less in zip(one[0], lifted)]
    # The last one comes to 0 and is no longer due.
    figures.pop()
    return in_lowest_terms(figures, divided_by * one[1])


def in_lowest_terms(figures, bottom):
    shared = bottom
    for figure in figures:
        shared = divisor(shared, figure)
    return ([figure // shared for figure in figures], bottom // shared)
