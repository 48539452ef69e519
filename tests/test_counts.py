import inspect
import random
import unittest
from fractions import Fraction

from tautcord import counts
from tautcord.cords import Cord
from tautcord.counts import signs, turns, up_to, worths_below
from tautcord.tones import held, loose

LONG = 10 ** 29 + 319
OTHER_LONG = 10 ** 30 - 11

ENDS = ("held", "loose")
NOUGHT = (0, 1)


def pair(number):
    return (number.numerator, number.denominator)


def fractions(chance, count, figures):
    low, high = 10 ** (figures - 1), 10 ** figures
    return [pair(Fraction(chance.randrange(low, high), chance.randrange(low, high))) for place in range(count)]


def some_cord(beads, figures, seed):
    chance = random.Random(seed)
    return Cord(fractions(chance, beads + 1, figures), fractions(chance, beads, figures))


def product_of_worths(worths, times):
    row = [Fraction(times)]
    for worth in worths:
        row = [a - b / worth for a, b in zip(row + [Fraction(0)], [Fraction(0)] + row)]
    return row


def cord_of_worths(helds, looses, length):
    """By the ladder of divisions, from the far peg to the near one."""
    upper, lower = product_of_worths(helds, length), product_of_worths(looses, 1)
    gaps, weights = [], []
    while True:
        gaps.insert(0, upper[-1] / lower[-1])
        upper = [a - gaps[0] * b for a, b in zip(upper, lower)][:-1]
        if not upper:
            return Cord([pair(gap) for gap in gaps], [pair(weight) for weight in weights])
        weights.insert(0, -lower[-1] / upper[-1])
        lower = [a + weights[0] * b for a, b in zip(lower, [Fraction(0)] + upper)][:-1]


def counted(one, t):
    """How many worths of a polynomial whose worths all are numbers and unlike lie below t, and up to t.

    Seen from t on, its figures change sides just as often as worths lie above t.
    """
    row = [Fraction(*figure) for figure in one]
    for start in range(len(row)):
        for place in range(len(row) - 2, start - 1, -1):
            row[place] += row[place + 1] * t
    sides = [figure > 0 for figure in row if figure]
    above = sum(a != b for a, b in zip(sides, sides[1:]))
    return len(row) - 1 - above - (row[0] == 0), len(row) - 1 - above


class CountCase(unittest.TestCase):
    def check(self, cord, end, t, below, to):
        with self.subTest(gaps=cord.gaps(), weights=cord.weights(), end=end, t=t):
            told = (worths_below(cord, end, t), up_to(cord, end, t))
            self.assertEqual(told, (below, to))
            self.assertEqual([type(number) for number in told], [int, int])

    def check_by_polynomials(self, cord, t):
        for end, one in (("held", held(cord)), ("loose", loose(cord))):
            below, to = counted(one, Fraction(*t))
            self.check(cord, end, t, below, to)
        self.check_between(cord, t)

    def check_between(self, cord, t):
        with self.subTest(gaps=cord.gaps(), weights=cord.weights(), t=t):
            self.assertLessEqual(up_to(cord, "held", t), worths_below(cord, "loose", t))
            self.assertLessEqual(up_to(cord, "loose", t), worths_below(cord, "held", t) + 1)

    def check_worths(self, cord, end, worths):
        """All that is told by a cord whose worths with this end are known."""
        for place, worth in enumerate(worths):
            self.check(cord, end, pair(worth), place, place + 1)
            self.check(cord, end, pair(worth - Fraction(1, 10 ** 40)), place, place)
            self.check(cord, end, pair(worth + Fraction(1, 10 ** 40)), place + 1, place + 1)
        for t in (NOUGHT, (-1, 1), (-LONG, 1), (1, 10 ** 99), (-1, 10 ** 99)):
            self.check(cord, end, t, 0, 0)
        for t in ((10 ** 6, 1), (10 ** 100 - 1, 1)):
            self.check(cord, end, t, len(worths), len(worths))


class TestSigns(unittest.TestCase):
    def check(self, row, answer):
        before = list(row)
        told = signs(row)
        self.assertEqual(told, answer)
        self.assertIs(type(told), list)
        self.assertEqual([type(sign) for sign in told], [int] * len(row))
        self.assertEqual(row, before)

    def test_no_fraction(self):
        self.check([], [])

    def test_some(self):
        self.check([(1, 2)], [1])
        self.check([(-1, 2)], [-1])
        self.check([NOUGHT], [0])
        self.check([(3, 1), (-1, 2), NOUGHT, (-5, 7), (1, 9)], [1, -1, 0, -1, 1])
        self.check([NOUGHT, NOUGHT, (1, 1), NOUGHT], [0, 0, 1, 0])
        self.check([NOUGHT] * 4, [0] * 4)

    def test_numbers_of_thirty_figures(self):
        self.check([(LONG, OTHER_LONG), (-LONG, OTHER_LONG), (-1, LONG), (1, OTHER_LONG), (-LONG, 1)], [1, -1, -1, 1, -1])

    def test_told_is_the_askers_own(self):
        row = [(1, 2), NOUGHT, (-1, 1)]
        told = signs(row)
        kept = signs(row)
        told[0] = 7
        told.append(1)
        self.assertEqual(kept, [1, 0, -1])
        self.assertEqual(signs(row), [1, 0, -1])
        row.clear()
        self.assertEqual(kept, [1, 0, -1])
        signs(row).append(1)
        self.assertEqual(signs(row), [])


class TestTurns(unittest.TestCase):
    def check(self, row, answer):
        before = list(row)
        told = turns(row)
        self.assertEqual(told, answer)
        self.assertIs(type(told), int)
        self.assertEqual(row, before)

    def test_no_fraction_and_one(self):
        self.check([], 0)
        for one in (NOUGHT, (1, 2), (-3, 1)):
            self.check([one], 0)

    def test_without_noughts(self):
        self.check([(1, 2), (3, 1), (1, 9)], 0)
        self.check([(-1, 2), (-3, 1)], 0)
        self.check([(1, 2), (-3, 1)], 1)
        self.check([(-1, 2), (3, 1)], 1)
        self.check([(1, 1), (-1, 1), (1, 1), (-1, 1)], 3)
        self.check([(1, 1), (1, 2), (-1, 1), (-1, 3), (-1, 7), (2, 1)], 2)

    def test_noughts_at_the_beginning(self):
        self.check([NOUGHT, (1, 1), (-1, 1)], 1)
        self.check([NOUGHT, NOUGHT, (-1, 1), (-1, 1)], 0)
        self.check([NOUGHT, (-2, 3)], 0)

    def test_noughts_in_the_middle(self):
        self.check([(1, 1), NOUGHT, (-1, 1)], 1)
        self.check([(1, 1), NOUGHT, (1, 1)], 0)
        self.check([(1, 1), NOUGHT, NOUGHT, (-1, 1), NOUGHT, (1, 1)], 2)
        self.check([(-1, 1), NOUGHT, NOUGHT, (-1, 1)], 0)

    def test_noughts_at_the_end(self):
        self.check([(1, 1), (-1, 1), NOUGHT], 1)
        self.check([(1, 1), NOUGHT, NOUGHT], 0)
        self.check([(-1, 1), NOUGHT], 0)

    def test_only_noughts(self):
        self.check([NOUGHT] * 5, 0)

    def test_numbers_of_thirty_figures(self):
        self.check([(LONG, OTHER_LONG), (-LONG, OTHER_LONG), (-1, LONG), NOUGHT, (1, OTHER_LONG), (-LONG, 1)], 3)


class TestCounts(CountCase):
    def test_no_bead(self):
        cord = Cord([(3, 2)], [])
        for end in ENDS:
            for t in (NOUGHT, (1, 1), (-1, 1), (2, 3), (10 ** 100 - 1, 1), (-LONG, OTHER_LONG)):
                self.check(cord, end, t, 0, 0)

    def test_one_bead(self):
        # 1 over 3/2 and 1 over 1/7, together, over 5; and 1 over 3/2, over 5.
        cord = Cord([(3, 2), (1, 7)], [(5, 1)])
        self.check_worths(cord, "held", [Fraction(23, 15)])
        self.check_worths(cord, "loose", [Fraction(2, 15)])

    def test_more_beads_of_one_weight(self):
        self.check_worths(Cord([(1, 1)] * 3, [(1, 1)] * 2), "held", [Fraction(1), Fraction(3)])
        # At 2 the heights are 1, 0, -1 and the far peg is at 0.
        cord = Cord([(1, 1)] * 4, [(1, 1)] * 3)
        self.check(cord, "held", (2, 1), 1, 2)
        self.check(cord, "loose", (2, 1), 2, 2)

    def test_a_height_that_is_nought(self):
        # At 2 the heights are 1, 0 and the far peg is at -1.
        cord = Cord([(1, 1)] * 3, [(1, 1)] * 2)
        self.check(cord, "held", (2, 1), 1, 1)
        self.check(cord, "loose", (2, 1), 1, 1)
        self.check_by_polynomials(cord, (2, 1))

    def test_worths_known_before(self):
        for beads in range(1, 13):
            helds = [Fraction(2 * k + 2) for k in range(beads)]
            looses = [Fraction(2 * k + 1) for k in range(beads)]
            cord = cord_of_worths(helds, looses, Fraction(5, 3))
            self.check_worths(cord, "held", helds)
            self.check_worths(cord, "loose", looses)
            for t in range(-1, 2 * beads + 2):
                self.check_between(cord, (t, 1))
                self.check_between(cord, (2 * t + 1, 2))

    def test_worths_close_to_one_another(self):
        chance = random.Random(21)
        for beads in (2, 5, 9):
            worths = [Fraction(1)]
            for place in range(2 * beads - 1):
                worths.append(worths[-1] + Fraction(1, chance.choice((2, 1000, 10 ** 9))))
            cord = cord_of_worths(worths[1::2], worths[::2], 1)
            self.check_worths(cord, "held", worths[1::2])
            self.check_worths(cord, "loose", worths[::2])
            for worth in worths:
                self.check_between(cord, pair(worth))

    def test_by_the_polynomials(self):
        chance = random.Random(22)
        for beads in range(13):
            for figures in (1, 3):
                cord = some_cord(beads, figures, beads)
                for t in [NOUGHT, (1, 1), (1, 10), (3, 1), (30, 1), (-2, 1)] + fractions(chance, 6, 2):
                    self.check_by_polynomials(cord, t)

    def test_where_heights_and_worths_are_often_nought(self):
        chance = random.Random(23)
        for turn in range(60):
            beads = turn % 6
            gaps = [(chance.choice((1, 1, 2)), 1) for place in range(beads + 1)]
            weights = [pair(Fraction(1, chance.choice((1, 1, 2)))) for place in range(beads)]
            cord = Cord(gaps, weights)
            for t in range(0, 9):
                self.check_by_polynomials(cord, pair(Fraction(t, 2)))

    def test_they_never_fall(self):
        cord = some_cord(7, 2, 24)
        for end in ENDS:
            last = 0
            for t in range(-5, 200):
                below, to = worths_below(cord, end, pair(Fraction(t, 9))), up_to(cord, end, pair(Fraction(t, 9)))
                self.assertLessEqual(last, below)
                self.assertLessEqual(below, to)
                last = to

    def test_at_the_bounds(self):
        chance = random.Random(25)
        cord = some_cord(12, 30, 26)
        ts = fractions(chance, 4, 100)
        for t in ts + [(-ts[0][0], ts[0][1]), (5 * ts[1][0] // ts[1][1] + 3, 1), (10 ** 100 - 1, 1), (1, 10 ** 100 - 1)]:
            self.check_by_polynomials(cord, t)
        self.check(cord, "held", (10 ** 100 - 1, 1), 12, 12)
        self.check(cord, "loose", (10 ** 100 - 1, 1), 12, 12)

    def test_a_worth_of_long_fractions(self):
        gap, other, weight = (LONG, OTHER_LONG), (OTHER_LONG, LONG), (LONG, 7)
        cord = Cord([gap, other], [weight])
        pull = 1 / Fraction(*gap)
        self.check_worths(cord, "loose", [pull / Fraction(*weight)])
        self.check_worths(cord, "held", [(pull + 1 / Fraction(*other)) / Fraction(*weight)])

    def test_told_the_same_again_and_the_cord_stays(self):
        cord = Cord([(1, 1), (1, 2), (2, 1)], [(2, 1), (3, 1)])
        for turn in range(3):
            self.check(cord, "held", (1, 1), 1, 1)
            self.check(cord, "loose", (1, 1), 1, 1)
            self.check(cord, "loose", (3, 1), 2, 2)
            self.assertEqual((cord.gaps(), cord.weights()), ([(1, 1), (1, 2), (2, 1)], [(2, 1), (3, 1)]))


class TestInterface(unittest.TestCase):
    def test_parameters(self):
        wanted = {"signs": ["row"], "turns": ["row"], "worths_below": ["cord", "end", "t"], "up_to": ["cord", "end", "t"]}
        for name, parameters in wanted.items():
            with self.subTest(name):
                self.assertEqual(list(inspect.signature(getattr(counts, name)).parameters), parameters)


if __name__ == "__main__":
    unittest.main()
