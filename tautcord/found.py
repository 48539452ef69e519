"""Cords found back: by their two polynomials, by their worths, and even cords by their worths held."""

from tautcord.cords import MOST_BEADS, Cord
from tautcord.errors import NoCord, NoWorth
from tautcord.ladders import ladder
from tautcord.polys import poly_plus, scaled, whole_times
from tautcord.ratios import fraction, is_rising, minus, over, side, times
from tautcord.tones import times_number


def cord_with(upper, lower):
    told = ladder(upper, lower)
    if told[1] is not None:
        raise NoCord(told[1])
    # The ladder begins at the far peg.
    steps = list(reversed(told[0]))
    return Cord(steps[::2], steps[1::2])


def cord_of(helds, looses, length):
    if len(helds) != len(looses) or len(helds) > MOST_BEADS:
        raise NoWorth("a cord has as many worths loose as held, at most 12")
    if not is_rising(in_turns(looses, helds)) or side(length) != 1:
        raise NoWorth("the worths in turns don't rise from 0 on, or the length isn't above 0")
    return cord_with(with_worths(helds, length), with_worths(looses, (1, 1)))


def even(helds, length):
    if len(helds) > MOST_BEADS:
        raise NoWorth("a cord has at most 12 worths held")
    if not is_rising(helds) or side(length) != 1:
        raise NoWorth("the worths don't rise from 0 on, or the length isn't above 0")
    # An even cord sounds as its half does: with the middle held at each second worth, with the
    # middle loose at those between. So only the half has to be found.
    upper = with_worths(helds[1::2], over(length, (2, 1)))
    lower = with_worths(helds[::2], (1, 1))
    if len(helds) % 2 == 0:
        return even_about_gap(cord_with(upper, lower))
    # One bead hangs in the middle: half of it is the half's last bead, with no gap behind it.
    weight = over(lower[-1], minus((0, 1), upper[-1]))
    lower = poly_plus(lower, times_number(scaled(upper, weight)))
    return even_about_bead(cord_with(upper, lower), times(weight, (2, 1)))


def even_about_gap(half):
    gaps = half.gaps()
    weights = half.weights()
    middle = times(gaps.pop(), (2, 1))
    return Cord(gaps + [middle] + list(reversed(gaps)), weights + list(reversed(weights)))


def even_about_bead(half, middle):
    gaps = half.gaps()
    weights = half.weights()
    return Cord(gaps + list(reversed(gaps)), weights + [middle] + list(reversed(weights)))


def in_turns(firsts, seconds):
    row = []
    for first, second in zip(firsts, seconds):
        row.append(first)
        row.append(second)
    return row


def with_worths(worths, first):
    # Each worth brings the factor 1 less the number over it, here times its top; so the tops are
    # left over as a bottom, and nothing is brought to lowest terms on the way.
    figures = [first[0]]
    bottom = first[1]
    for worth in worths:
        figures = whole_times(figures, [worth[0], -worth[1]])
        bottom = bottom * worth[0]
    return [fraction(figure, bottom) for figure in figures]
