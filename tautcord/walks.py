"""Walks along a cord at a number: how high it stands and how it leans, gap by gap."""

from tautcord.ratios import minus, plus, times


def walked(cord, t, height=None, lean=None):
    here = (0, 1) if height is None else height
    leaning = (1, 1) if lean is None else lean
    weights = cord.weights()
    steps = []
    for place, gap in enumerate(cord.gaps()):
        # Ahead of the first gap stands the near peg, ahead of each other one a bead.
        if place > 0:
            leaning = minus(leaning, times(times(t, weights[place - 1]), here))
        here = plus(here, times(gap, leaning))
        steps.append((here, leaning))
    return steps
