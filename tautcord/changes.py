"""Cords changed: a bead made heavier, a gap made longer, two cords joined, a cord cut at a bead."""

from tautcord.cords import Cord
from tautcord.errors import NoBead, NoCord
from tautcord.ratios import is_fraction, plus, side


def heavier(cord, bead, more):
    check_bead(cord, bead)
    # Beads are numbered from 1 on, the places of their list from 0 on.
    return Cord(cord.gaps(), with_more(cord.weights(), bead - 1, more))


def longer(cord, gap, more):
    if gap < 0 or gap > cord.beads():
        raise NoBead("there is no such gap")
    return Cord(with_more(cord.gaps(), gap, more), cord.weights())


def joined(one, other):
    gaps = one.gaps()
    further = other.gaps()
    middle = plus(gaps[-1], further[0])
    return Cord(gaps[:-1] + [middle] + further[1:], one.weights() + other.weights())


def cut(cord, bead):
    check_bead(cord, bead)
    gaps = cord.gaps()
    weights = cord.weights()
    return (Cord(gaps[:bead], weights[:bead - 1]), Cord(gaps[bead:], weights[bead:]))


def check_bead(cord, bead):
    if bead < 1 or bead > cord.beads():
        raise NoBead("there is no such bead")


def with_more(row, place, more):
    if not is_fraction(more) or side(more) != 1:
        raise NoCord(None)
    return row[:place] + [plus(row[place], more)] + row[place + 1:]
