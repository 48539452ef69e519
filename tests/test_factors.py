import copy
import inspect
import random
import unittest
from fractions import Fraction

from tautcord import factors
from tautcord.errors import NoFraction
from tautcord.factors import common, divided
from tautcord.polys import poly, poly_plus, poly_times, scaled

LONG = 10 ** 29 + 319
OTHER_LONG = 10 ** 30 - 11

# Numbers modulo which the common part is sought, and their divisors: figures made of these
# are lost there, so another modulus must do.
HIDDEN = [2 ** 64 + 1, 274177, 67280421310721, 2 ** 128 + 1, 59649589127497217, 2 ** 256 + 1,
          (2 ** 64 + 1) * (2 ** 128 + 1) * (2 ** 256 + 1)]

ONE = [(1, 1)]

SOME = [
    [], [(1, 1)], [(-3, 4)], [(0, 1), (1, 1)], [(1, 1), (1, 1)], [(1, 1), (-1, 1)], [(0, 1), (-2, 5)],
    [(1, 2), (2, 3), (-1, 6)], [(-1, 1), (0, 1), (1, 1)], [(1, 1), (-2, 1), (1, 1)], [(0, 1), (0, 1), (0, 1), (2, 7)],
    [(7, 1), (0, 1), (-2, 9), (2, 7)], [(-1, 1), (0, 1), (0, 1), (0, 1), (1, 1)], [(0, 1), (0, 1), (3, 1)],
    [(LONG, OTHER_LONG), (-OTHER_LONG, LONG), (1, LONG)], [(LONG, 1), (-1, OTHER_LONG)],
    [(6, 1), (-5, 1), (1, 1)], [(3, 1), (-4, 1), (1, 1)], [(1, 6), (-5, 6), (1, 1)],
]


def pair(number):
    return (number.numerator, number.denominator)


def rows(count, figures, seed):
    chance = random.Random(seed)
    low, high = 10 ** (figures - 1), 10 ** figures
    return [pair(chance.choice((1, -1)) * Fraction(chance.randrange(low, high), chance.randrange(low, high)))
            for place in range(count)]


def monic(one):
    return [pair(Fraction(*figure) / Fraction(*one[-1])) for figure in one]


def rest_of(one, other):
    rest = list(one)
    while len(rest) >= len(other):
        factor = rest[-1] / other[-1]
        start = len(rest) - len(other)
        for place, figure in enumerate(other):
            rest[start + place] -= factor * figure
        rest.pop()
    while rest and rest[-1] == 0:
        rest.pop()
    return rest


def common_of(one, other):
    first = [Fraction(*figure) for figure in one]
    second = [Fraction(*figure) for figure in other]
    while second:
        first, second = second, rest_of(first, second)
    return monic([pair(figure) for figure in first]) if first else []


class FactorCase(unittest.TestCase):
    def check_form(self, told):
        self.assertIs(type(told), list)
        for figure in told:
            self.assertIs(type(figure), tuple)
            self.assertEqual([type(part) for part in figure], [int, int])
        if told:
            self.assertNotEqual(told[-1], (0, 1))


class TestDivided(FactorCase):
    def check(self, one, other, quotient, rest):
        told = divided(one, other)
        self.assertEqual(told, (quotient, rest))
        self.assertIs(type(told), tuple)
        self.check_form(told[0])
        self.check_form(told[1])

    def check_law(self, one, other):
        told = divided(one, other)
        self.assertIs(type(told), tuple)
        self.assertEqual(len(told), 2)
        self.check_form(told[0])
        self.check_form(told[1])
        self.assertLess(len(told[1]), len(other))
        self.assertEqual(poly_plus(poly_times(told[0], other), told[1]), one)

    def test_a_longer_divisor(self):
        self.check([(1, 1), (2, 1)], [(1, 1), (0, 1), (3, 1)], [], [(1, 1), (2, 1)])
        self.check([(1, 1)], [(1, 1), (1, 1)], [], [(1, 1)])
        self.check([], [(1, 1), (1, 1)], [], [])
        self.check([], [(5, 1)], [], [])

    def test_as_many_figures(self):
        self.check([(1, 1), (4, 1)], [(1, 1), (2, 1)], [(2, 1)], [(-1, 1)])
        self.check([(2, 1), (4, 1)], [(1, 1), (2, 1)], [(2, 1)], [])

    def test_without_a_rest(self):
        self.check([(-1, 1), (0, 1), (0, 1), (1, 1)], [(-1, 1), (1, 1)], [(1, 1), (1, 1), (1, 1)], [])
        self.check([(1, 4), (0, 1), (-3, 1), (0, 1), (9, 1)], [(1, 2), (0, 1), (-3, 1)], [(1, 2), (0, 1), (-3, 1)], [])

    def test_with_a_rest(self):
        self.check([(1, 1), (0, 1), (1, 1)], [(1, 1), (1, 1)], [(-1, 1), (1, 1)], [(2, 1)])
        self.check([(1, 1), (2, 1), (3, 1), (4, 1)], [(0, 1), (0, 1), (2, 1)], [(3, 2), (2, 1)], [(1, 1), (2, 1)])
        self.check([(0, 1), (0, 1), (0, 1), (1, 1)], [(1, 1), (0, 1), (1, 1)], [(0, 1), (1, 1)], [(0, 1), (-1, 1)])

    def test_a_rest_with_noughts_at_its_end(self):
        self.check([(5, 1), (0, 1), (0, 1), (1, 1)], [(0, 1), (0, 1), (1, 1)], [(0, 1), (1, 1)], [(5, 1)])
        self.check([(5, 1), (1, 1), (0, 1), (0, 1), (1, 1)], [(1, 1), (0, 1), (0, 1), (1, 1)], [(0, 1), (1, 1)], [(5, 1)])

    def test_by_one_figure(self):
        self.check([(1, 1), (0, 1), (-3, 1)], [(-3, 2)], [(-2, 3), (0, 1), (2, 1)], [])
        self.check([(1, 1), (0, 1), (-3, 1)], [(1, 1)], [(1, 1), (0, 1), (-3, 1)], [])

    def test_by_itself(self):
        for one in SOME[1:]:
            with self.subTest(one=one):
                self.check(one, one, [(1, 1)], [])

    def test_all_pairs(self):
        for one in SOME:
            for other in SOME[1:]:
                with self.subTest(one=one, other=other):
                    self.check_law(one, other)

    def test_products_leave_no_rest(self):
        for one in SOME:
            for other in SOME[1:]:
                with self.subTest(one=one, other=other):
                    self.check(poly_times(one, other), other, one, [])

    def test_at_the_bounds(self):
        self.check_law(rows(30, 30, 1), rows(15, 30, 2))
        self.check_law(rows(30, 400, 3), rows(29, 400, 4))
        self.check_law(rows(30, 400, 5), rows(1, 400, 6))
        self.check(rows(29, 400, 7), rows(30, 400, 8), [], rows(29, 400, 7))
        one, other = rows(16, 12, 9), rows(15, 12, 10)
        self.check(poly_times(one, other), other, one, [])

    def test_by_nought_is_refused(self):
        for one in SOME:
            with self.subTest(one=one):
                with self.assertRaises(NoFraction):
                    divided(one, [])

    def test_told_as_before_behind_a_refusal(self):
        one, other = [(1, 1), (0, 1), (1, 1)], [(1, 1), (1, 1)]
        before = divided(one, other)
        with self.assertRaises(NoFraction):
            divided(one, [])
        self.assertEqual(one, [(1, 1), (0, 1), (1, 1)])
        self.assertEqual(divided(one, other), before)

    def test_told_is_the_askers_own(self):
        for first in SOME:
            for second in SOME[1:]:
                with self.subTest(one=first, other=second):
                    one, other = list(first), list(second)
                    told = divided(one, other)
                    again = divided(one, other)
                    kept = copy.deepcopy(told)
                    lists = [one, other, told[0], told[1], again[0], again[1]]
                    self.assertEqual(len({id(thing) for thing in lists}), 6)
                    self.assertEqual((one, other), (first, second))
                    told[0].append((7, 1))
                    told[1].append((8, 1))
                    self.assertEqual((one, other), (first, second))
                    self.assertEqual(again, kept)
                    self.assertEqual(divided(one, other), kept)
                    one.insert(0, (9, 1))
                    other.insert(0, (9, 1))
                    self.assertEqual(again, kept)

    def test_one_list_twice(self):
        one = [(1, 2), (0, 1), (-3, 1)]
        self.check(one, one, [(1, 1)], [])
        self.assertEqual(one, [(1, 2), (0, 1), (-3, 1)])


class TestCommon(FactorCase):
    def check(self, one, other, answer):
        self.assertEqual(common(one, other), answer)
        told = common(other, one)
        self.assertEqual(told, answer)
        self.check_form(told)
        if told:
            self.assertEqual(told[-1], (1, 1))

    def test_more_than_one_figure(self):
        self.check([(6, 1), (-5, 1), (1, 1)], [(3, 1), (-4, 1), (1, 1)], [(-3, 1), (1, 1)])
        self.check([(6, 7), (-5, 7), (1, 7)], [(-9, 5), (12, 5), (-3, 5)], [(-3, 1), (1, 1)])
        self.check([(0, 1), (0, 1), (0, 1), (2, 7)], [(0, 1), (0, 1), (3, 1)], [(0, 1), (0, 1), (1, 1)])
        self.check([(-1, 1), (0, 1), (0, 1), (0, 1), (1, 1)], [(-1, 1)] + [(0, 1)] * 5 + [(1, 1)],
                   [(-1, 1), (0, 1), (1, 1)])

    def test_figures_of_it_are_fractions(self):
        self.check(poly_times([(-2, 3), (5, 7)], [(1, 1), (1, 1)]), poly_times([(-2, 3), (5, 7)], [(1, 1), (2, 1)]),
                   [(-14, 15), (1, 1)])

    def test_a_part_that_stands_twice(self):
        twice = [(1, 1), (-2, 1), (1, 1)]
        self.check(poly_times(twice, [(5, 1), (1, 1)]), poly_times(twice, [(6, 1), (1, 1)]), twice)
        self.check(poly_times(twice, [(5, 1), (1, 1)]), [(-1, 1), (0, 1), (1, 1)], [(-1, 1), (1, 1)])

    def test_one_divides_the_other(self):
        self.check([(-1, 1), (0, 1), (0, 1), (3, 1)], poly_times([(-1, 1), (0, 1), (0, 1), (3, 1)], [(2, 1), (9, 1)]),
                   [(-1, 3), (0, 1), (0, 1), (1, 1)])

    def test_none(self):
        self.check([(1, 1), (1, 1)], [(2, 1), (1, 1)], ONE)
        self.check([(1, 1), (0, 1), (1, 1)], [(0, 1), (5, 1)], ONE)
        self.check([(5, 3)], [(0, 1), (0, 1), (2, 1)], ONE)
        self.check([(5, 3)], [(-7, 1)], ONE)
        self.check([(1, 1)], [(1, 1)], ONE)

    def test_one_of_both_nought(self):
        self.check([], [(1, 2), (0, 1), (-3, 2)], [(-1, 3), (0, 1), (1, 1)])
        self.check([], [(0, 1), (7, 3)], [(0, 1), (1, 1)])
        self.check([], [(-5, 3)], ONE)
        self.check([], [(4, 1), (1, 1)], [(4, 1), (1, 1)])

    def test_both_nought(self):
        self.check([], [], [])

    def test_both_alike(self):
        for one in SOME[1:] + [rows(30, 400, 1)]:
            with self.subTest(one=one):
                self.check(one, one, monic(one))
                self.check(one, list(one), monic(one))
                self.check(one, scaled(one, (-7, 3)), monic(one))

    def test_all_pairs(self):
        for one in SOME:
            for other in SOME:
                with self.subTest(one=one, other=other):
                    self.check(one, other, common_of(one, other))

    def test_all_products(self):
        part = [(-2, 3), (1, LONG), (5, 7)]
        for one in SOME[1:]:
            for other in SOME[1:]:
                with self.subTest(one=one, other=other):
                    first, second = poly_times(one, part), poly_times(other, part)
                    self.check(first, second, common_of(first, second))

    def test_figures_that_a_modulus_hides(self):
        for number in HIDDEN:
            with self.subTest(number=number):
                part = [(1, 1), (number, 1)]
                self.check(poly_times(part, [(1, 1), (1, 1)]), poly_times(part, [(2, 1), (1, 1)]), [(1, number), (1, 1)])
                self.check([(1, 1), (1, 1)], [(1 + number, 1), (1, 1)], ONE)
                self.check([(1, 1), (1, number)], [(2, 1), (1, number)], ONE)
                self.check(part, poly_plus(part, ONE), ONE)
                self.check([(number, 1), (number, 1)], [(number, 3), (number, 3)], [(1, 1), (1, 1)])

    def test_many_that_moduli_hide(self):
        chance = random.Random(5)
        pool = [0, 0, 1, -1, 2, 3, -5] + HIDDEN

        def any_poly(most):
            figures = [pair(Fraction(chance.choice(pool), chance.choice([1, 1, 2, 3] + HIDDEN)))
                       for place in range(chance.randint(1, most))]
            return poly(figures + [(chance.choice(HIDDEN), 1)])

        for step in range(300):
            part, one, other = any_poly(3), any_poly(4), any_poly(4)
            first, second = poly_times(part, one), poly_times(part, other)
            with self.subTest(first=first, second=second):
                self.check(first, second, common_of(first, second))

    def test_none_at_the_bounds(self):
        self.check(rows(30, 400, 2), rows(30, 400, 3), ONE)
        self.check(rows(30, 400, 4), rows(2, 400, 5), ONE)

    def test_one_at_the_bounds(self):
        for figures, more, size, seed in ((15, 16, 12, 10), (2, 29, 100, 20), (29, 2, 90, 30)):
            with self.subTest(figures=figures):
                part = rows(figures, size, seed)
                one = poly_times(part, rows(more, size, seed + 1))
                other = poly_times(part, rows(more, size, seed + 2))
                self.assertEqual(len(one), 30)
                self.check(one, other, monic(part))

    def test_told_is_the_askers_own(self):
        for first in SOME:
            for second in SOME:
                with self.subTest(one=first, other=second):
                    one, other = list(first), list(second)
                    told = common(one, other)
                    again = common(one, other)
                    kept = list(told)
                    self.assertEqual(len({id(thing) for thing in (one, other, told, again)}), 4)
                    self.assertEqual((one, other), (first, second))
                    told.append((7, 1))
                    told[0] = (77, 1)
                    self.assertEqual((one, other), (first, second))
                    self.assertEqual(again, kept)
                    self.assertEqual(common(one, other), kept)
                    one.insert(0, (9, 1))
                    other.insert(0, (9, 1))
                    self.assertEqual(again, kept)


class TestInterface(unittest.TestCase):
    def test_parameters(self):
        for name in ("divided", "common"):
            with self.subTest(name):
                self.assertEqual(list(inspect.signature(getattr(factors, name)).parameters), ["one", "other"])


if __name__ == "__main__":
    unittest.main()
