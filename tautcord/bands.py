"""The determinant of a band: a table of polynomials, all 0 but in the middle and right beside it.

Each row is taken so many times that its figures are whole numbers, and the determinant grows as
many times. So nothing is brought to lowest terms on the way, where it would have to be done for
each product, but once at the end.
"""

from tautcord.polys import poly, shared_bottom, whole_figures, whole_times
from tautcord.ratios import fraction


def band(table):
    # The determinants of the rows up to here and up to the row ahead, each times its bottom.
    now = [1]
    before = []
    bottom = 1
    right_ahead = []
    for place in range(len(table)):
        parts = parts_of_row(table, place)
        factor = shared_bottom(parts[0] + parts[1] + parts[2])
        left = whole_figures(parts[0], factor)
        middle = whole_figures(parts[1], factor)
        across = whole_times(whole_times(left, right_ahead), before)
        before = now
        now = whole_minus(whole_times(middle, now), across)
        right_ahead = whole_figures(parts[2], factor)
        bottom = bottom * factor
    return poly([fraction(figure, bottom) for figure in now])


def parts_of_row(table, place):
    return (part_beside(table, place, place - 1), table[place][place], part_beside(table, place, place + 1))


def part_beside(table, place, other):
    # It only comes in times the part that stands across the middle: where that one is 0, it is
    # left out, so that its bottoms make no number greater.
    if other < 0 or other == len(table) or len(table[other][place]) == 0:
        return []
    return table[place][other]


def whole_minus(one, other):
    rest = one + [0] * (len(other) - len(one))
    for power, figure in enumerate(other):
        rest[power] = rest[power] - figure
    return rest
