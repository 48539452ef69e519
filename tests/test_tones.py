import inspect
import random
import unittest
from fractions import Fraction

from tautcord import tones
from tautcord.cords import Cord
from tautcord.polys import poly_minus, poly_times, slope
from tautcord.tones import free, held, loose, near, squares

LONG = 10 ** 29 + 319
OTHER_LONG = 10 ** 30 - 11

# More numbers than a polynomial of these cords has figures, so that its worths tell all of it.
TS = [(0, 1), (1, 1), (-1, 1), (2, 1), (-2, 1), (1, 2), (-5, 3), (7, 2), (3, 1), (1, 9), (-4, 7), (11, 5), (100, 3),
      (-9, 1), (8, 1), (LONG, OTHER_LONG)]

ALL = (held, loose, near, free, squares)


def pair(number):
    return (number.numerator, number.denominator)


def fractions(chance, count, figures):
    low, high = 10 ** (figures - 1), 10 ** figures
    return [pair(Fraction(chance.randrange(low, high), chance.randrange(low, high))) for place in range(count)]


def some_cord(beads, figures, seed):
    chance = random.Random(seed)
    return Cord(fractions(chance, beads + 1, figures), fractions(chance, beads, figures))


def worth_of(one, number):
    worth = Fraction(0)
    for power, figure in enumerate(one):
        worth += Fraction(*figure) * number ** power
    return worth


def walk_of(cord, t, height, lean):
    """The heights at all beads, the height at the far peg, and the last lean."""
    gaps = [Fraction(*gap) for gap in cord.gaps()]
    weights = [Fraction(*weight) for weight in cord.weights()]
    heights = []
    for place, gap in enumerate(gaps):
        if place:
            heights.append(height)
            lean -= t * weights[place - 1] * height
        height += gap * lean
    return heights, height, lean


def product_of_worths(worths, times):
    """The polynomial of all 1 less the number over a worth, so many times."""
    row = [Fraction(times)]
    for worth in worths:
        row = [a - b / worth for a, b in zip(row + [Fraction(0)], [Fraction(0)] + row)]
    return [pair(figure) for figure in row]


def cord_of_worths(helds, looses, length):
    """By the ladder of divisions, from the far peg to the near one."""
    upper = [Fraction(*figure) for figure in product_of_worths(helds, length)]
    lower = [Fraction(*figure) for figure in product_of_worths(looses, 1)]
    gaps, weights = [], []
    while True:
        gaps.insert(0, upper[-1] / lower[-1])
        upper = [a - gaps[0] * b for a, b in zip(upper, lower)][:-1]
        if not upper:
            return Cord([pair(gap) for gap in gaps], [pair(weight) for weight in weights])
        weights.insert(0, -lower[-1] / upper[-1])
        lower = [a + weights[0] * b for a, b in zip(lower, [Fraction(0)] + upper)][:-1]


class ToneCase(unittest.TestCase):
    def check(self, told, answer):
        self.assertEqual(told, answer)
        self.check_form(told)

    def check_form(self, told):
        self.assertIs(type(told), list)
        for figure in told:
            self.assertIs(type(figure), tuple)
            self.assertEqual([type(part) for part in figure], [int, int])
            self.assertEqual(figure, pair(Fraction(*figure)))
        if told:
            self.assertNotEqual(told[-1], (0, 1))

    def check_walks(self, cord, ts):
        told = [held(cord), loose(cord), near(cord), free(cord)]
        for t in ts:
            t = Fraction(*t)
            with self.subTest(gaps=cord.gaps(), weights=cord.weights(), t=t):
                beads, far, last = walk_of(cord, t, Fraction(0), Fraction(1))
                other_beads, other_far, other_last = walk_of(cord, t, Fraction(1), Fraction(0))
                self.assertEqual([worth_of(one, t) for one in told], [far, last, other_far, other_last])

    def check_squares(self, cord, ts):
        told = squares(cord)
        self.check_form(told)
        for t in ts:
            t = Fraction(*t)
            with self.subTest(gaps=cord.gaps(), weights=cord.weights(), t=t):
                beads = walk_of(cord, t, Fraction(0), Fraction(1))[0]
                weights = [Fraction(*weight) for weight in cord.weights()]
                whole = sum((weight * height * height for weight, height in zip(weights, beads)), Fraction(0))
                self.assertEqual(worth_of(told, t), whole)


class TestHeldLooseNearFree(ToneCase):
    def test_no_bead(self):
        cord = Cord([(3, 2)], [])
        self.check(held(cord), [(3, 2)])
        self.check(loose(cord), [(1, 1)])
        self.check(near(cord), [(1, 1)])
        self.check(free(cord), [])

    def test_one_bead(self):
        cord = Cord([(3, 2), (1, 7)], [(5, 1)])
        self.check(held(cord), [(23, 14), (-15, 14)])
        self.check(loose(cord), [(1, 1), (-15, 2)])
        self.check(near(cord), [(1, 1), (-5, 7)])
        self.check(free(cord), [(0, 1), (-5, 1)])

    def test_two_beads(self):
        # Begun with (0, 1): 1; 1 - 2 t, 3/2 - t; 1 - 13/2 t + 3 t t, 7/2 - 14 t + 6 t t.
        # Begun with (1, 0): 1; -2 t, 1 - t; -5 t + 3 t t, 1 - 11 t + 6 t t.
        cord = Cord([(1, 1), (1, 2), (2, 1)], [(2, 1), (3, 1)])
        self.check(held(cord), [(7, 2), (-14, 1), (6, 1)])
        self.check(loose(cord), [(1, 1), (-13, 2), (3, 1)])
        self.check(near(cord), [(1, 1), (-11, 1), (6, 1)])
        self.check(free(cord), [(0, 1), (-5, 1), (3, 1)])

    def test_worths_are_those_of_the_walks(self):
        for beads in range(13):
            self.check_walks(some_cord(beads, 2, beads), TS)

    def test_as_many_figures_as_gaps(self):
        for beads in range(13):
            cord = some_cord(beads, 3, beads)
            for deed in (held, loose, near, free):
                with self.subTest(beads=beads, deed=deed.__name__):
                    told = deed(cord)
                    self.check_form(told)
                    self.assertEqual(len(told), 0 if deed is free and beads == 0 else beads + 1)
            if beads:
                self.assertEqual(free(cord)[0], (0, 1))

    def test_first_and_last_figures(self):
        cord = some_cord(12, 3, 99)
        self.assertEqual(held(cord)[0], cord.length())
        self.assertEqual(loose(cord)[0], (1, 1))
        self.assertEqual(near(cord)[0], (1, 1))
        whole = Fraction(1)
        for part in cord.gaps() + cord.weights():
            whole *= Fraction(*part)
        self.assertEqual(Fraction(*held(cord)[-1]), whole)

    def test_at_the_bounds(self):
        cord = some_cord(12, 30, 5)
        ts = fractions(random.Random(6), 3, 100)
        self.check_walks(cord, TS + ts + [(-ts[0][0], ts[0][1])])
        for deed in (held, loose, near, free):
            self.check_form(deed(cord))
            self.assertEqual(len(deed(cord)), 13)

    def test_of_worths_known_before(self):
        helds, looses = list(range(2, 26, 2)), list(range(1, 25, 2))
        for beads in range(13):
            with self.subTest(beads=beads):
                cord = cord_of_worths(helds[:beads], looses[:beads], Fraction(7, 3))
                self.assertEqual(cord.beads(), beads)
                self.check(held(cord), product_of_worths(helds[:beads], Fraction(7, 3)))
                self.check(loose(cord), product_of_worths(looses[:beads], 1))


class TestTogether(ToneCase):
    def test_near_times_loose_less_held_times_free_is_one(self):
        for beads in range(13):
            cord = some_cord(beads, 4, beads + 20)
            with self.subTest(beads=beads):
                one = poly_minus(poly_times(near(cord), loose(cord)), poly_times(held(cord), free(cord)))
                self.check(one, [(1, 1)])

    def test_so_at_the_bounds(self):
        cord = some_cord(12, 30, 7)
        one = poly_minus(poly_times(near(cord), loose(cord)), poly_times(held(cord), free(cord)))
        self.check(one, [(1, 1)])

    def test_the_cord_turned(self):
        for beads in range(13):
            for figures in (1, 4, 30):
                cord = some_cord(beads, figures, beads + 40)
                with self.subTest(beads=beads, figures=figures):
                    self.check(near(cord), loose(cord.turned()))
                    self.check(loose(cord), near(cord.turned()))
                    self.check(held(cord), held(cord.turned()))
                    self.check(free(cord), free(cord.turned()))


class TestSquares(ToneCase):
    def test_no_bead(self):
        self.check(squares(Cord([(3, 2)], [])), [])

    def test_one_bead(self):
        self.check(squares(Cord([(3, 2), (1, 7)], [(5, 1)])), [(45, 4)])
        self.check(squares(Cord([(1, 1), (9, 1)], [(2, 3)])), [(2, 3)])

    def test_two_beads(self):
        # 2 times 1, and 3 times (3/2 - t) times itself.
        self.check(squares(Cord([(1, 1), (1, 2), (2, 1)], [(2, 1), (3, 1)])), [(35, 4), (-9, 1), (3, 1)])

    def test_the_sum_over_the_beads(self):
        for beads in range(13):
            cord = some_cord(beads, 2, beads + 60)
            self.check_squares(cord, TS + [(place, 13) for place in range(14, 26)])
            self.assertEqual(len(squares(cord)), max(0, 2 * beads - 1))

    def test_by_the_slopes(self):
        for beads in range(13):
            cord = some_cord(beads, 2, beads + 80)
            first = poly_times(slope(held(cord)), loose(cord))
            second = poly_times(held(cord), slope(loose(cord)))
            self.check(squares(cord), poly_minus(first, second))

    def test_above_nought_at_every_number(self):
        for beads in range(1, 13):
            cord = some_cord(beads, 1, beads + 100)
            for t in TS:
                self.assertGreater(worth_of(squares(cord), Fraction(*t)), 0)

    def test_at_the_bounds(self):
        self.check_squares(some_cord(12, 30, 8), TS[:6] + fractions(random.Random(9), 2, 100))


class TestOwnLists(ToneCase):
    def test_told_the_same_again(self):
        for beads in (0, 1, 2, 5):
            cord = some_cord(beads, 2, beads)
            for deed in ALL:
                with self.subTest(beads=beads, deed=deed.__name__):
                    told = deed(cord)
                    kept = deed(cord)
                    answer = list(told)
                    self.assertIsNot(told, kept)
                    told.append((5, 1))
                    told[0] = (77, 1)
                    self.check(kept, answer)
                    self.check(deed(cord), answer)
                    told.clear()
                    for other in ALL:
                        other(cord).clear()
                        other(cord.turned()).append((1, 1))
                    self.check(kept, answer)
                    self.check(deed(cord), answer)

    def test_no_two_are_one_list(self):
        for beads in (0, 1, 4):
            cord = some_cord(beads, 2, beads)
            told = [deed(one) for deed in ALL for one in (cord, cord, cord.turned())]
            self.assertEqual(len({id(one) for one in told}), len(told))

    def test_the_cord_stays(self):
        gaps, weights = [(1, 1), (1, 2), (2, 1)], [(2, 1), (3, 1)]
        cord = Cord(gaps, weights)
        for deed in ALL:
            deed(cord).clear()
            self.assertEqual((cord.gaps(), cord.weights()), ([(1, 1), (1, 2), (2, 1)], [(2, 1), (3, 1)]))
        kept = held(cord)
        gaps.clear()
        weights.clear()
        self.assertEqual(kept, [(7, 2), (-14, 1), (6, 1)])
        self.assertEqual(held(cord), kept)


class TestInterface(unittest.TestCase):
    def test_parameters(self):
        for name in ("held", "loose", "near", "free", "squares"):
            with self.subTest(name):
                self.assertEqual(list(inspect.signature(getattr(tones, name)).parameters), ["cord"])


if __name__ == "__main__":
    unittest.main()
