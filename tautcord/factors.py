"""Polynomials divided, and the common part of two of them.

The rests of two polynomials divided in turns grow far beyond what is handed in and told. So the
common part is sought by residues: the divisions are done with whole numbers modulo a number, the
figures of what comes of it are found back as fractions, and what divides both polynomials without
a rest is the common part, since by residues it never has fewer figures than it should.
"""

from tautcord.errors import NoFraction
from tautcord.polys import poly, scaled, shared_bottom, whole_figures
from tautcord.ratios import fraction, minus, over, times


def divided(one, other):
    if len(other) == 0:
        raise NoFraction("nothing is divided by the polynomial 0")
    rest = list(one)
    quotient = []
    while len(rest) >= len(other):
        factor = over(rest[-1], other[-1])
        quotient.append(factor)
        rest = rest_less(rest, factor, other)
    quotient.reverse()
    return (poly(quotient), poly(rest))


def rest_less(rest, factor, other):
    # The last figure comes to 0 by the choice of the factor and is left out.
    start = len(rest) - len(other)
    lower = [minus(rest[start + place], times(factor, other[place])) for place in range(len(other) - 1)]
    return rest[:start] + lower


def common(one, other):
    if len(one) == 0:
        return with_last_one(other)
    if len(other) == 0:
        return with_last_one(one)
    whole_one = whole_figures(one, shared_bottom(one))
    whole_other = whole_figures(other, shared_bottom(other))
    # No two numbers root * root + 1 of this row share a divisor, and only so many divisors can
    # lead astray: so one of them comes that does not, and is great enough.
    root = 2 ** 32
    while True:
        guess = common_guess(whole_one, whole_other, root)
        if guess is not None and divides(guess, one) and divides(guess, other):
            return guess
        root = root * root


def with_last_one(one):
    if len(one) == 0:
        return []
    return scaled(one, over((1, 1), one[-1]))


def divides(part, one):
    return len(divided(one, part)[1]) == 0


def common_guess(one, other, root):
    modulus = root * root + 1
    row = common_row(monic_row(one, modulus), monic_row(other, modulus), modulus)
    if row is None:
        return None
    # Well below the root a fraction hardly ever comes of a residue by chance.
    figures = [fraction_of(residue, modulus, root // 2 ** 10) for residue in row]
    if None in figures:
        return None
    return figures


def common_row(first, second, modulus):
    while first is not None and second is not None and len(second) > 0:
        rest = monic_row(rest_by(first, second, modulus), modulus)
        first = second
        second = rest
    if second is None:
        return None
    return first


def monic_row(row, modulus):
    if len(row) == 0:
        return []
    # Without an inverse of the last figure this modulus tells nothing: a last figure that is
    # lost by it would make the common part too short.
    factor = inverse(row[-1], modulus)
    if factor is None:
        return None
    return [figure * factor % modulus for figure in row]


def rest_by(row, monic, modulus):
    rest = list(row)
    while len(rest) >= len(monic):
        factor = rest.pop()
        start = len(rest) + 1 - len(monic)
        for place in range(len(monic) - 1):
            rest[start + place] = (rest[start + place] - factor * monic[place]) % modulus
    while len(rest) > 0 and rest[-1] == 0:
        rest.pop()
    return rest


def inverse(number, modulus):
    ended = small_multiple(number, modulus, 1)
    if ended[0] != 1:
        return None
    return ended[1]


def fraction_of(residue, modulus, most):
    ended = small_multiple(residue, modulus, most)
    if abs(ended[1]) > most:
        return None
    return fraction(ended[0], ended[1])


def small_multiple(number, modulus, most):
    # Told as (rest, factor): the factor times the number leaves the rest, the first one that is
    # at most most among those that come when modulus and number are divided in turns.
    before = modulus
    before_factor = 0
    rest = number % modulus
    factor = 1
    while rest > most:
        fits = before // rest
        next_rest = before - fits * rest
        next_factor = before_factor - fits * factor
        before = rest
        before_factor = factor
        rest = next_rest
        factor = next_factor
    return (rest, factor)
