"""Cords: gaps and weights in turns from the near peg to the far peg."""

from tautcord.errors import NoCord
from tautcord.ratios import is_fraction, plus, side

MOST_BEADS = 12


def is_row_above(thing):
    if not isinstance(thing, list):
        return False
    return all([is_fraction(part) and side(part) == 1 for part in thing])


class Cord:
    def __init__(self, gaps, weights):
        if not is_row_above(gaps) or not is_row_above(weights):
            raise NoCord(None)
        if len(gaps) != len(weights) + 1 or len(weights) > MOST_BEADS:
            raise NoCord(None)
        # Copies, so that what is done later to the lists handed in changes nothing here.
        self.kept_gaps = list(gaps)
        self.kept_weights = list(weights)

    def gaps(self):
        return list(self.kept_gaps)

    def weights(self):
        return list(self.kept_weights)

    def beads(self):
        return len(self.kept_weights)

    def length(self):
        whole = (0, 1)
        for gap in self.kept_gaps:
            whole = plus(whole, gap)
        return whole

    def turned(self):
        return Cord(list(reversed(self.kept_gaps)), list(reversed(self.kept_weights)))
