"""Polynomials: lists of fractions, the figure of the power 0 first, the last one not 0."""

from tautcord.ratios import minus, plus, side, times
from tautcord.wholes import divisor


def poly(figures):
    most = len(figures)
    while most > 0 and side(figures[most - 1]) == 0:
        most -= 1
    return figures[:most]


def figure_at(one, power):
    if power < len(one):
        return one[power]
    return (0, 1)


def poly_plus(one, other):
    most = max(len(one), len(other))
    return poly([plus(figure_at(one, power), figure_at(other, power)) for power in range(most)])


def poly_minus(one, other):
    most = max(len(one), len(other))
    return poly([minus(figure_at(one, power), figure_at(other, power)) for power in range(most)])


def poly_times(one, other):
    # Where one of both is 0, only noughts stand here, and poly leaves them out.
    product = [(0, 1)] * (len(one) + len(other) - 1)
    for power, figure in enumerate(one):
        for further, factor in enumerate(other):
            product[power + further] = plus(product[power + further], times(figure, factor))
    return poly(product)


def scaled(one, number):
    return poly([times(figure, number) for figure in one])


def slope(one):
    return [times(figure, (power, 1)) for power, figure in enumerate(one[1:], start=1)]


def worth_at(one, number):
    # From the highest power down, so that no power is reckoned by itself.
    worth = (0, 1)
    for figure in reversed(one):
        worth = plus(times(worth, number), figure)
    return worth


def shared_bottom(figures):
    bottom = 1
    for figure in figures:
        bottom = bottom * (figure[1] // divisor(bottom, figure[1]))
    return bottom


def whole_figures(one, bottom):
    return [figure[0] * (bottom // figure[1]) for figure in one]


def whole_times(one, other):
    if len(one) == 0 or len(other) == 0:
        return []
    product = [0] * (len(one) + len(other) - 1)
    for power, figure in enumerate(one):
        for further, factor in enumerate(other):
            product[power + further] = product[power + further] + figure * factor
    return product
