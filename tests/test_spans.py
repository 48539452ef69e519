import inspect
import random
import unittest
from fractions import Fraction

from tautcord import spans
from tautcord.cords import Cord
from tautcord.counts import up_to
from tautcord.errors import CordError, NoWorth
from tautcord.spans import span
from tautcord.tones import held, loose

LONG = 10 ** 29 + 319
OTHER_LONG = 10 ** 30 - 11

ENDS = ("held", "loose")
NOUGHT = (0, 1)


def pair(number):
    return (number.numerator, number.denominator)


def fractions(chance, count, figures):
    low, high = 10 ** (figures - 1), 10 ** figures
    return [pair(Fraction(chance.randrange(low, high), chance.randrange(low, high))) for place in range(count)]


def some_cord(beads, figures, seed):
    chance = random.Random(seed)
    return Cord(fractions(chance, beads + 1, figures), fractions(chance, beads, figures))


def counted_up_to(one, t):
    """How many worths of a polynomial whose worths all are numbers and unlike lie up to t.

    Seen from t on, its figures change sides just as often as worths lie above t.
    """
    row = [Fraction(*figure) for figure in one]
    for start in range(len(row)):
        for place in range(len(row) - 2, start - 1, -1):
            row[place] += row[place + 1] * t
    sides = [figure > 0 for figure in row if figure]
    return len(row) - 1 - sum(a != b for a, b in zip(sides, sides[1:]))


def first_high(cord):
    gaps = [Fraction(*gap) for gap in cord.gaps()]
    weights = [Fraction(*weight) for weight in cord.weights()]
    return sum((1 / gaps[k] + 1 / gaps[k + 1]) / weights[k] for k in range(len(weights)))


def known_span(cord, end, k, halvings):
    one = held(cord) if end == "held" else loose(cord)
    low, high = Fraction(0), first_high(cord)
    for halving in range(halvings):
        middle = (low + high) / 2
        if counted_up_to(one, middle) >= k:
            high = middle
        else:
            low = middle
    return (pair(low), pair(high))


class SpanCase(unittest.TestCase):
    def check(self, cord, end, k, halvings, answer):
        with self.subTest(gaps=cord.gaps(), weights=cord.weights(), end=end, k=k, halvings=halvings):
            told = span(cord, end, k, halvings)
            self.assertEqual(told, answer)
            self.assertEqual([type(thing) for thing in (told, told[0], told[1])], [tuple] * 3)
            self.assertEqual([type(number) for number in told[0] + told[1]], [int] * 4)

    def check_closed_in(self, cord, end, k, halvings):
        """By the counts alone, and by how far the two are apart."""
        with self.subTest(gaps=cord.gaps(), weights=cord.weights(), end=end, k=k, halvings=halvings):
            low, high = span(cord, end, k, halvings)
            self.assertLess(up_to(cord, end, low), k)
            self.assertGreaterEqual(up_to(cord, end, high), k)
            self.assertEqual(Fraction(*high) - Fraction(*low), first_high(cord) / 2 ** halvings)


class TestSpan(SpanCase):
    def test_two_beads(self):
        # The worths held are 1 and 3; at first high is 4.
        cord = Cord([(1, 1)] * 3, [(1, 1)] * 2)
        self.check(cord, "held", 1, 0, (NOUGHT, (4, 1)))
        self.check(cord, "held", 2, 0, (NOUGHT, (4, 1)))
        self.check(cord, "held", 1, 1, (NOUGHT, (2, 1)))
        self.check(cord, "held", 2, 1, ((2, 1), (4, 1)))
        # The middle is the worth itself: it becomes high, and stays it.
        self.check(cord, "held", 1, 2, (NOUGHT, (1, 1)))
        self.check(cord, "held", 2, 2, ((2, 1), (3, 1)))
        self.check(cord, "held", 1, 4, ((3, 4), (1, 1)))
        self.check(cord, "held", 2, 60, (pair(3 - Fraction(1, 2 ** 58)), (3, 1)))

    def test_high_is_the_same_at_first_with_either_end(self):
        for cord in (Cord([(1, 2), (3, 1), (2, 5)], [(2, 1), (1, 3)]), some_cord(5, 3, 31)):
            for end in ENDS:
                for k in range(1, cord.beads() + 1):
                    self.check(cord, end, k, 0, (NOUGHT, pair(first_high(cord))))

    def test_one_bead(self):
        # With the end held the worth is what high is at first; no halving brings high below it.
        cord = Cord([(3, 2), (1, 7)], [(5, 1)])
        worth = Fraction(23, 15)
        for halvings in (0, 1, 2, 17, 60):
            self.check(cord, "held", 1, halvings, (pair(worth - worth / 2 ** halvings), pair(worth)))
            self.check(cord, "loose", 1, halvings, known_span(cord, "loose", 1, halvings))
            self.check_closed_in(cord, "loose", 1, halvings)

    def test_worths_that_are_no_fractions(self):
        # The worths held are 2 less the root of 2, 2, and 2 and the root of 2.
        cord = Cord([(1, 1)] * 4, [(1, 1)] * 3)
        low, high = [Fraction(*one) for one in span(cord, "held", 1, 60)]
        self.assertTrue((2 - high) ** 2 < 2 < (2 - low) ** 2)
        self.assertEqual(high - low, Fraction(6, 2 ** 60))
        low, high = [Fraction(*one) for one in span(cord, "held", 3, 60)]
        self.assertTrue((low - 2) ** 2 < 2 < (high - 2) ** 2)
        low, high = [Fraction(*one) for one in span(cord, "held", 2, 60)]
        self.assertTrue(low < 2 <= high)

    def test_each_halving(self):
        for seed, beads in enumerate((2, 3, 4)):
            cord = some_cord(beads, 1, seed)
            for end in ENDS:
                for k in range(1, beads + 1):
                    for halvings in list(range(12)) + [60]:
                        self.check(cord, end, k, halvings, known_span(cord, end, k, halvings))

    def test_each_worth_of_more_beads(self):
        for beads in range(1, 13):
            cord = some_cord(beads, 2, beads)
            for end in ENDS:
                for k in range(1, beads + 1):
                    self.check(cord, end, k, 9, known_span(cord, end, k, 9))
                    for halvings in (0, 1, 20, 60):
                        self.check_closed_in(cord, end, k, halvings)

    def test_worths_that_the_middles_often_hit(self):
        for beads in (2, 3, 5):
            for gap in ((1, 1), (2, 1), (1, 3)):
                cord = Cord([gap] * (beads + 1), [(1, 1)] * beads)
                for end in ENDS:
                    for k in range(1, beads + 1):
                        for halvings in (1, 2, 3, 8):
                            self.check(cord, end, k, halvings, known_span(cord, end, k, halvings))

    def test_at_the_bounds(self):
        cord = some_cord(12, 30, 33)
        for end in ENDS:
            self.check(cord, end, 5, 0, (NOUGHT, pair(first_high(cord))))
            for k in (1, 2, 7, 12):
                self.check_closed_in(cord, end, k, 60)
        self.check(cord, "held", 4, 12, known_span(cord, "held", 4, 12))
        self.check(cord, "loose", 11, 12, known_span(cord, "loose", 11, 12))

    def test_told_the_same_again_and_the_cord_stays(self):
        cord = Cord([(1, 1), (1, 2), (2, 1)], [(2, 1), (3, 1)])
        first = span(cord, "loose", 2, 30)
        for turn in range(3):
            span(cord, "held", 1, 60)
            self.assertEqual(span(cord, "loose", 2, 30), first)
            self.assertEqual((cord.gaps(), cord.weights()), ([(1, 1), (1, 2), (2, 1)], [(2, 1), (3, 1)]))


class TestNoWorth(unittest.TestCase):
    def check_refused(self, cord, k):
        for end in ENDS:
            for halvings in (0, 1, 60):
                with self.subTest(beads=cord.beads(), end=end, k=k, halvings=halvings):
                    with self.assertRaises(CordError) as caught:
                        span(cord, end, k, halvings)
                    self.assertIs(type(caught.exception), NoWorth)

    def test_k_below_one(self):
        for beads in (1, 2, 12):
            for k in (0, -1, -2, -beads, -LONG):
                self.check_refused(some_cord(beads, 1, beads), k)

    def test_k_above_the_beads(self):
        for beads in (1, 2, 12):
            for k in (beads + 1, beads + 2, 100, OTHER_LONG):
                self.check_refused(some_cord(beads, 1, beads), k)

    def test_no_bead(self):
        for k in (1, 0, -1, 2, LONG):
            self.check_refused(Cord([(3, 2)], []), k)


class TestInterface(unittest.TestCase):
    def test_parameters(self):
        self.assertEqual(list(inspect.signature(spans.span).parameters), ["cord", "end", "k", "halvings"])


if __name__ == "__main__":
    unittest.main()
