"""The forces of a cord: a table of polynomials whose determinant is 0 at its worths."""

from tautcord.ratios import minus, over, plus


def forces(cord, end):
    pulls = [over((1, 1), gap) for gap in cord.gaps()]
    if end == "loose":
        # A far end that slides along pulls at no bead; the pull stays as a 0, so that each bead has two.
        pulls[-1] = (0, 1)
    weights = cord.weights()
    return [force_row(pulls, weights, bead) for bead in range(len(weights))]


def force_row(pulls, weights, bead):
    # Each thing is made by itself, so that no two of the table are one list.
    return [force(pulls, weights, bead, other) for other in range(len(weights))]


def force(pulls, weights, bead, other):
    # The beads are numbered from 0 on here: the gap ahead of a bead has its number.
    if bead == other:
        return [plus(pulls[bead], pulls[bead + 1]), minus((0, 1), weights[bead])]
    if abs(bead - other) == 1:
        return [minus((0, 1), pulls[max(bead, other)])]
    return []
