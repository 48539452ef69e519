"""Cords that sound alike with an end, and the sister of a cord: another one with the same worths held."""

from tautcord.counts import up_to, worths_below
from tautcord.errors import NoWorth
from tautcord.found import cord_with, with_worths
from tautcord.polys import scaled
from tautcord.ratios import is_rising
from tautcord.tones import held, loose


def alike(one, other, end):
    if end == "loose":
        return loose(one) == loose(other)
    # Each times the other's length, which comes to the same as each over its own.
    return scaled(held(one), other.length()) == scaled(held(other), one.length())


def sister(cord, looses):
    if len(looses) != cord.beads() or not is_rising(looses):
        raise NoWorth("the loose worths rise from 0 on, as many as beads")
    if not all([is_behind(cord, worth, place) for place, worth in enumerate(looses)]):
        raise NoWorth("the loose worths don't part the worths held")
    return cord_with(held(cord), with_worths(looses, (1, 1)))


def is_behind(cord, worth, most):
    # Counted, not compared: the worths held need not be fractions.
    return worths_below(cord, "held", worth) == most and up_to(cord, "held", worth) == most
