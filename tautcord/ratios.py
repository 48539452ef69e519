"""Fractions: tuples (top, bottom) in lowest terms, the bottom from 1 on."""

from tautcord.errors import NoFraction
from tautcord.wholes import divisor, is_whole


def is_fraction(thing):
    if not isinstance(thing, tuple) or len(thing) != 2:
        return False
    if not is_whole(thing[0]) or not is_whole(thing[1]):
        return False
    return thing[1] >= 1 and divisor(thing[0], thing[1]) == 1


def fraction(top, bottom=1):
    if not is_whole(top) or not is_whole(bottom):
        raise NoFraction("a fraction is made of two whole numbers")
    if bottom == 0:
        raise NoFraction("the bottom of a fraction is not 0")
    shared = divisor(top, bottom)
    # The sign goes to the top, so that the bottom is from 1 on.
    if bottom < 0:
        shared = -shared
    return (top // shared, bottom // shared)


def plus(one, other):
    # Both are in lowest terms, so only what the bottoms share can still divide the sum:
    # looking there alone keeps the numbers small where one side is much longer.
    shared = divisor(one[1], other[1])
    top = one[0] * (other[1] // shared) + other[0] * (one[1] // shared)
    left = divisor(top, shared)
    return (top // left, (one[1] // shared) * (other[1] // left))


def minus(one, other):
    return plus(one, (-other[0], other[1]))


def times(one, other):
    # Both are in lowest terms, so only a top and the other's bottom can share something.
    first = divisor(one[0], other[1])
    second = divisor(other[0], one[1])
    return ((one[0] // first) * (other[0] // second), (one[1] // second) * (other[1] // first))


def over(one, other):
    if other[0] == 0:
        raise NoFraction("nothing is divided by 0")
    return times(one, fraction(other[1], other[0]))


def is_under(one, other):
    return one[0] * other[1] < other[0] * one[1]


def side(one):
    if one[0] > 0:
        return 1
    if one[0] < 0:
        return -1
    return 0


def is_rising(row):
    # Begun at 0: the first one has to be above it.
    last = (0, 1)
    for one in row:
        if not is_under(last, one):
            return False
        last = one
    return True
