import copy
import inspect
import random
import unittest
from fractions import Fraction

from tautcord import polys
from tautcord.polys import poly, poly_minus, poly_plus, poly_times, scaled, slope, worth_at

LONG = 10 ** 29 + 319
OTHER_LONG = 10 ** 30 - 11

NOUGHT = (0, 1)
NUMBERS = [(0, 1), (1, 1), (-1, 1), (2, 1), (1, 2), (-2, 3), (-7, 5), (LONG, OTHER_LONG), (-OTHER_LONG, LONG)]


def pair(number):
    return (number.numerator, number.denominator)


def numbers(figures):
    return [Fraction(top, bottom) for top, bottom in figures]


def trimmed(figures):
    row = list(figures)
    while row and row[-1] == 0:
        row.pop()
    return [pair(number) for number in row]


def at(row, place):
    return row[place] if place < len(row) else Fraction(0)


def sum_of(one, other):
    one, other = numbers(one), numbers(other)
    return trimmed([at(one, k) + at(other, k) for k in range(max(len(one), len(other)))])


def difference_of(one, other):
    one, other = numbers(one), numbers(other)
    return trimmed([at(one, k) - at(other, k) for k in range(max(len(one), len(other)))])


def product_of(one, other):
    one, other = numbers(one), numbers(other)
    return trimmed([sum((at(one, j) * at(other, k - j) for j in range(k + 1)), Fraction(0))
                    for k in range(len(one) + len(other))])


def worth_of(one, number):
    number = Fraction(*number)
    return pair(sum((figure * number ** power for power, figure in enumerate(numbers(one))), Fraction(0)))


SOME = [
    [], [(1, 1)], [(-1, 1)], [(-3, 4)], [(0, 1), (1, 1)], [(0, 1), (-1, 1)], [(1, 1), (1, 1)], [(1, 1), (-1, 1)],
    [(1, 2), (2, 3), (-1, 6)], [(-1, 2), (5, 1), (1, 6)], [(1, 2), (-2, 3), (-1, 6)], [(0, 1), (0, 1), (0, 1), (2, 7)],
    [(7, 1), (0, 1), (-2, 9), (2, 7)], [(7, 1), (0, 1), (2, 9), (-2, 7)], [(0, 1), (0, 1), (3, 1)],
    [(LONG, OTHER_LONG), (-OTHER_LONG, LONG), (1, LONG)], [(LONG, 1), (1, OTHER_LONG), (-1, LONG)],
]


def rows(count, figures, seed):
    chance = random.Random(seed)
    low, high = 10 ** (figures - 1), 10 ** figures
    return [pair(chance.choice((1, -1)) * Fraction(chance.randrange(low, high), chance.randrange(low, high)))
            for place in range(count)]


class PolyCase(unittest.TestCase):
    def check(self, told, answer):
        self.assertEqual(told, answer)
        self.check_form(told)

    def check_form(self, told):
        self.assertIs(type(told), list)
        for figure in told:
            self.assertIs(type(figure), tuple)
            self.assertEqual([type(part) for part in figure], [int, int])
        if told:
            self.assertNotEqual(told[-1], NOUGHT)

    def check_own(self, deed, *handed):
        before = copy.deepcopy(handed)
        first = deed(*handed)
        kept = copy.deepcopy(first)
        self.assertEqual(handed, before, "what is handed in stays")
        second = deed(*handed)
        self.assertIsNot(first, second)
        for thing in handed:
            self.assertIsNot(first, thing)
        first.append((5, 1))
        first[0] = (77, 1)
        self.assertEqual(handed, before, "what is told is the asker's own")
        self.assertEqual(second, kept)
        self.assertEqual(deed(*handed), kept)
        for thing in handed:
            if isinstance(thing, list):
                thing.insert(0, (9, 1))
        self.assertEqual(second, kept, "what is done later to what was handed in changes nothing")

    def check_all_pairs(self, deed, answer):
        for one in SOME:
            for other in SOME:
                with self.subTest(one=one, other=other):
                    self.check(deed(one, other), answer(one, other))

    def check_all_own(self, deed):
        for one in SOME:
            for other in SOME:
                with self.subTest(one=one, other=other):
                    self.check_own(deed, list(one), list(other))


class TestPoly(PolyCase):
    def test_as_it_stands(self):
        self.check(poly([(1, 2), (3, 1)]), [(1, 2), (3, 1)])
        self.check(poly([(-1, 2)]), [(-1, 2)])
        self.check(poly([(LONG, OTHER_LONG), (-1, LONG)]), [(LONG, OTHER_LONG), (-1, LONG)])

    def test_noughts_at_the_end(self):
        self.check(poly([(1, 2), (3, 1), (0, 1)]), [(1, 2), (3, 1)])
        self.check(poly([(1, 2), (-3, 1), (0, 1), (0, 1), (0, 1)]), [(1, 2), (-3, 1)])
        self.check(poly([(-1, 3), (0, 1)]), [(-1, 3)])

    def test_noughts_elsewhere_stay(self):
        self.check(poly([(0, 1), (3, 1)]), [(0, 1), (3, 1)])
        self.check(poly([(0, 1), (0, 1), (-3, 1), (0, 1), (1, 5)]), [(0, 1), (0, 1), (-3, 1), (0, 1), (1, 5)])
        self.check(poly([(0, 1), (3, 1), (0, 1), (1, 5), (0, 1)]), [(0, 1), (3, 1), (0, 1), (1, 5)])

    def test_only_noughts(self):
        self.check(poly([(0, 1)]), [])
        self.check(poly([(0, 1), (0, 1), (0, 1)]), [])

    def test_no_figures(self):
        self.check(poly([]), [])

    def test_thirty_figures(self):
        figures = rows(30, 400, 1)
        self.check(poly(figures), figures)
        self.check(poly(figures + [NOUGHT] * 5), figures)

    def test_told_is_the_askers_own(self):
        for figures in SOME + [[NOUGHT], [(1, 1), NOUGHT], [(1, 1), (2, 1), NOUGHT, NOUGHT]]:
            with self.subTest(figures=figures):
                self.check_own(poly, list(figures))


class TestPolyPlus(PolyCase):
    def test_unlike_lengths(self):
        self.check(poly_plus([(1, 2)], [(1, 3), (0, 1), (2, 1)]), [(5, 6), (0, 1), (2, 1)])
        self.check(poly_plus([(1, 3), (0, 1), (2, 1)], [(1, 2)]), [(5, 6), (0, 1), (2, 1)])

    def test_last_figures_come_to_nought(self):
        self.check(poly_plus([(1, 1), (2, 1), (3, 4)], [(1, 1), (5, 1), (-3, 4)]), [(2, 1), (7, 1)])
        self.check(poly_plus([(1, 1), (2, 1), (3, 4)], [(1, 1), (-2, 1), (-3, 4)]), [(2, 1)])
        self.check(poly_plus([(1, 1), (2, 1), (3, 4)], [(-1, 1), (-2, 1), (-3, 4)]), [])
        self.check(poly_plus([(1, 1), (2, 1), (3, 4)], [(-1, 1), (0, 1), (-3, 4)]), [(0, 1), (2, 1)])

    def test_nought_on_either_side(self):
        self.check(poly_plus([], [(1, 2), (3, 1)]), [(1, 2), (3, 1)])
        self.check(poly_plus([(1, 2), (3, 1)], []), [(1, 2), (3, 1)])
        self.check(poly_plus([], []), [])

    def test_one_list_twice(self):
        one = [(1, 2), (0, 1), (-3, 1)]
        self.check(poly_plus(one, one), [(1, 1), (0, 1), (-6, 1)])
        self.assertEqual(one, [(1, 2), (0, 1), (-3, 1)])

    def test_all_pairs(self):
        self.check_all_pairs(poly_plus, sum_of)

    def test_at_the_bounds(self):
        one, other = rows(30, 400, 2), rows(30, 400, 3)
        self.check(poly_plus(one, other), sum_of(one, other))

    def test_told_is_the_askers_own(self):
        self.check_all_own(poly_plus)


class TestPolyMinus(PolyCase):
    def test_unlike_lengths(self):
        self.check(poly_minus([(1, 2)], [(1, 3), (0, 1), (2, 1)]), [(1, 6), (0, 1), (-2, 1)])
        self.check(poly_minus([(1, 3), (0, 1), (2, 1)], [(1, 2)]), [(-1, 6), (0, 1), (2, 1)])

    def test_last_figures_come_to_nought(self):
        self.check(poly_minus([(1, 1), (2, 1), (3, 4)], [(2, 1), (5, 1), (3, 4)]), [(-1, 1), (-3, 1)])
        self.check(poly_minus([(1, 1), (2, 1), (3, 4)], [(2, 1), (2, 1), (3, 4)]), [(-1, 1)])
        self.check(poly_minus([(1, 1), (2, 1), (3, 4)], [(1, 1), (0, 1), (3, 4)]), [(0, 1), (2, 1)])
        self.check(poly_minus([(1, 1), (2, 1), (3, 4)], [(1, 1), (2, 1), (3, 4)]), [])

    def test_nought_on_either_side(self):
        self.check(poly_minus([], [(1, 2), (-3, 1)]), [(-1, 2), (3, 1)])
        self.check(poly_minus([(1, 2), (-3, 1)], []), [(1, 2), (-3, 1)])
        self.check(poly_minus([], []), [])

    def test_one_list_twice(self):
        one = [(1, 2), (0, 1), (-3, 1)]
        self.check(poly_minus(one, one), [])
        self.assertEqual(one, [(1, 2), (0, 1), (-3, 1)])

    def test_all_pairs(self):
        self.check_all_pairs(poly_minus, difference_of)

    def test_at_the_bounds(self):
        one, other = rows(30, 400, 4), rows(30, 400, 5)
        self.check(poly_minus(one, other), difference_of(one, other))

    def test_told_is_the_askers_own(self):
        self.check_all_own(poly_minus)


class TestPolyTimes(PolyCase):
    def test_unlike_lengths(self):
        self.check(poly_times([(1, 2)], [(1, 3), (0, 1), (2, 1)]), [(1, 6), (0, 1), (1, 1)])
        self.check(poly_times([(1, 1), (1, 1)], [(1, 1), (-1, 1), (1, 1)]), [(1, 1), (0, 1), (0, 1), (1, 1)])
        self.check(poly_times([(1, 1), (-1, 1), (1, 1)], [(1, 1), (1, 1)]), [(1, 1), (0, 1), (0, 1), (1, 1)])
        self.check(poly_times([(0, 1), (2, 3)], [(0, 1), (0, 1), (3, 2)]), [(0, 1), (0, 1), (0, 1), (1, 1)])

    def test_nought_on_either_side(self):
        self.check(poly_times([], [(1, 2), (-3, 1)]), [])
        self.check(poly_times([(1, 2), (-3, 1)], []), [])
        self.check(poly_times([], [(1, 1)]), [])
        self.check(poly_times([], []), [])

    def test_one_list_twice(self):
        one = [(1, 2), (0, 1), (-3, 1)]
        self.check(poly_times(one, one), [(1, 4), (0, 1), (-3, 1), (0, 1), (9, 1)])
        self.assertEqual(one, [(1, 2), (0, 1), (-3, 1)])

    def test_all_pairs(self):
        self.check_all_pairs(poly_times, product_of)

    def test_at_the_bounds(self):
        one, other = rows(30, 400, 6), rows(30, 400, 7)
        told = poly_times(one, other)
        self.check_form(told)
        self.assertEqual(len(told), 59)
        self.assertEqual(told[0], pair(Fraction(*one[0]) * Fraction(*other[0])))
        self.assertEqual(told[58], pair(Fraction(*one[29]) * Fraction(*other[29])))
        self.assertEqual(told[1], pair(Fraction(*one[0]) * Fraction(*other[1]) + Fraction(*one[1]) * Fraction(*other[0])))

    def test_told_is_the_askers_own(self):
        self.check_all_own(poly_times)


class TestScaled(PolyCase):
    def test_by_nought(self):
        self.check(scaled([(1, 2), (0, 1), (-3, 1)], (0, 1)), [])
        self.check(scaled([], (0, 1)), [])

    def test_by_one(self):
        self.check(scaled([(1, 2), (0, 1), (-3, 1)], (1, 1)), [(1, 2), (0, 1), (-3, 1)])

    def test_by_a_fraction_below_nought(self):
        self.check(scaled([(1, 2), (0, 1), (-3, 1)], (-2, 3)), [(-1, 3), (0, 1), (2, 1)])

    def test_the_polynomial_nought(self):
        for number in NUMBERS:
            self.check(scaled([], number), [])

    def test_all(self):
        for one in SOME:
            for number in NUMBERS:
                with self.subTest(one=one, number=number):
                    self.check(scaled(one, number), trimmed([Fraction(*number) * figure for figure in numbers(one)]))

    def test_told_is_the_askers_own(self):
        for one in SOME:
            for number in NUMBERS:
                with self.subTest(one=one, number=number):
                    self.check_own(scaled, list(one), number)


class TestSlope(PolyCase):
    def test_no_figure_and_one_figure(self):
        self.check(slope([]), [])
        self.check(slope([(5, 3)]), [])
        self.check(slope([(-1, 1)]), [])

    def test_more_figures(self):
        self.check(slope([(7, 1), (5, 3)]), [(5, 3)])
        self.check(slope([(7, 1), (0, 1), (5, 6)]), [(0, 1), (5, 3)])
        self.check(slope([(1, 1), (2, 1), (1, 2), (-2, 9)]), [(2, 1), (1, 1), (-2, 3)])
        self.check(slope([(0, 1), (0, 1), (0, 1), (0, 1), (1, 4)]), [(0, 1), (0, 1), (0, 1), (1, 1)])

    def test_all(self):
        for one in SOME + [rows(30, 400, 8)]:
            with self.subTest(one=one):
                answer = [pair(power * figure) for power, figure in enumerate(numbers(one))][1:]
                self.check(slope(one), answer)

    def test_told_is_the_askers_own(self):
        for one in SOME:
            with self.subTest(one=one):
                self.check_own(slope, list(one))


class TestWorthAt(PolyCase):
    def check_worth(self, one, number, answer):
        before = list(one)
        told = worth_at(one, number)
        self.assertEqual(told, answer)
        self.assertIs(type(told), tuple)
        self.assertEqual([type(part) for part in told], [int, int])
        self.assertEqual(one, before)

    def test_the_polynomial_nought(self):
        for number in NUMBERS:
            self.check_worth([], number, (0, 1))

    def test_one_figure(self):
        for number in NUMBERS:
            self.check_worth([(-3, 4)], number, (-3, 4))

    def test_at_nought(self):
        self.check_worth([(2, 3), (5, 1), (7, 1)], (0, 1), (2, 3))
        self.check_worth([(0, 1), (5, 1)], (0, 1), (0, 1))

    def test_at_one(self):
        self.check_worth([(2, 3), (5, 1), (1, 3)], (1, 1), (6, 1))

    def test_at_a_fraction_below_nought(self):
        self.check_worth([(1, 1), (2, 1), (4, 1)], (-1, 2), (1, 1))
        self.check_worth([(1, 1), (2, 1), (4, 1), (8, 1)], (-1, 2), (0, 1))
        self.check_worth([(0, 1), (0, 1), (0, 1), (1, 2)], (-2, 3), (-4, 27))

    def test_figures_of_thirty_figures(self):
        for seed in range(5):
            one = rows(6, 30, seed)
            for number in NUMBERS + rows(2, 30, seed + 50) + rows(1, 100, seed + 70):
                with self.subTest(seed=seed, number=number):
                    self.check_worth(one, number, worth_of(one, number))

    def test_all(self):
        for one in SOME:
            for number in NUMBERS:
                with self.subTest(one=one, number=number):
                    self.check_worth(one, number, worth_of(one, number))

    def test_at_the_bounds(self):
        one = rows(30, 400, 9)
        number = rows(1, 100, 10)[0]
        self.check_worth(one, number, worth_of(one, number))

    def test_of_sums_and_products(self):
        for one in SOME:
            for other in SOME:
                number = (-5, 7)
                first, second = Fraction(*worth_at(one, number)), Fraction(*worth_at(other, number))
                self.assertEqual(worth_at(poly_plus(one, other), number), pair(first + second))
                self.assertEqual(worth_at(poly_minus(one, other), number), pair(first - second))
                self.assertEqual(worth_at(poly_times(one, other), number), pair(first * second))

    def test_told_as_before(self):
        one = [(1, 1), (2, 1), (4, 1)]
        self.assertEqual(worth_at(one, (1, 2)), (3, 1))
        worth_at(one, (9, 2))
        self.assertEqual(worth_at(one, (1, 2)), (3, 1))


class TestInterface(unittest.TestCase):
    def test_parameters(self):
        wanted = {"poly": ["figures"], "poly_plus": ["one", "other"], "poly_minus": ["one", "other"],
                  "poly_times": ["one", "other"], "scaled": ["one", "number"], "slope": ["one"],
                  "worth_at": ["one", "number"]}
        for name, parameters in wanted.items():
            with self.subTest(name):
                self.assertEqual(list(inspect.signature(getattr(polys, name)).parameters), parameters)


if __name__ == "__main__":
    unittest.main()
