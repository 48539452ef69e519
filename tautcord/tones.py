"""The polynomials of a cord: what its walks come to at the far peg, for all numbers at once."""

from tautcord.polys import poly, poly_minus, poly_plus, poly_times, scaled, slope


def held(cord):
    return ends(cord, [], [(1, 1)])[0]


def loose(cord):
    return ends(cord, [], [(1, 1)])[1]


def near(cord):
    return ends(cord, [(1, 1)], [])[0]


def free(cord):
    return ends(cord, [(1, 1)], [])[1]


def squares(cord):
    # The slopes of the last height and the last lean tell the sum without a product for each bead.
    last = ends(cord, [], [(1, 1)])
    return poly_minus(poly_times(slope(last[0]), last[1]), poly_times(last[0], slope(last[1])))


def ends(cord, height, lean):
    # A walk whose heights and leans are polynomials: told are the last ones of both.
    gaps = cord.gaps()
    here = poly_plus(height, scaled(lean, gaps[0]))
    leaning = lean
    for weight, gap in zip(cord.weights(), gaps[1:]):
        leaning = poly_minus(leaning, times_number(scaled(here, weight)))
        here = poly_plus(here, scaled(leaning, gap))
    return (here, leaning)


def times_number(one):
    return poly([(0, 1)] + one)
