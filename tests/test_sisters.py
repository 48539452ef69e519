import inspect
import random
import unittest
from fractions import Fraction

from tautcord import sisters
from tautcord.cords import Cord
from tautcord.counts import up_to, worths_below
from tautcord.errors import CordError, NoWorth
from tautcord.found import cord_of, even
from tautcord.polys import worth_at
from tautcord.sisters import alike, sister
from tautcord.spans import span
from tautcord.tones import held, loose

LONG = 10 ** 29 + 319
OTHER_LONG = 10 ** 30 - 11

ENDS = ("held", "loose")


def pair(number):
    return (number.numerator, number.denominator)


def pairs(row):
    return [pair(Fraction(number)) for number in row]


def fractions(chance, count, figures):
    low, high = 10 ** (figures - 1), 10 ** figures
    return [pair(Fraction(chance.randrange(low, high), chance.randrange(low, high))) for place in range(count)]


def some_cord(beads, figures, seed):
    chance = random.Random(seed)
    return Cord(fractions(chance, beads + 1, figures), fractions(chance, beads, figures))


def taken(cord, number):
    """The cord with its gaps times the number and its weights over it."""
    return Cord(pairs([Fraction(*gap) * number for gap in cord.gaps()]),
                pairs([Fraction(*weight) / number for weight in cord.weights()]))


def product_of_worths(worths, times):
    row = [Fraction(times)]
    for worth in worths:
        row = [a - b / worth for a, b in zip(row + [Fraction(0)], [Fraction(0)] + row)]
    return pairs(row)


def between_the_held(cord, halvings):
    """A loose worth for each bead, told as Python's fractions, that part the cord's worths held."""
    spans = [span(cord, "held", k, halvings) for k in range(1, cord.beads() + 1)]
    highs = [Fraction(0)] + [Fraction(*high) for low, high in spans]
    return [(ahead + Fraction(*low)) / 2 for ahead, (low, high) in zip(highs, spans)]


class TestAlike(unittest.TestCase):
    def check(self, one, other, held_alike, loose_alike):
        for first, second in ((one, other), (other, one)):
            with self.subTest(first=first.gaps(), second=second.gaps()):
                before = (first.gaps(), first.weights(), second.gaps(), second.weights())
                self.assertIs(alike(first, second, "held"), held_alike)
                self.assertIs(alike(first, second, "loose"), loose_alike)
                self.assertEqual((first.gaps(), first.weights(), second.gaps(), second.weights()), before)

    def test_a_cord_and_itself(self):
        for beads in range(13):
            cord = some_cord(beads, 3, beads)
            self.check(cord, cord, True, True)
            self.check(cord, Cord(cord.gaps(), cord.weights()), True, True)

    def test_no_bead(self):
        self.check(Cord([(3, 2)], []), Cord([(1, 7)], []), True, True)
        self.check(Cord([(3, 2)], []), Cord([(1, 1), (1, 1)], [(1, 1)]), False, False)

    def test_turned(self):
        for beads in range(1, 13):
            cord = some_cord(beads, 3, 300 + beads)
            self.check(cord, cord.turned(), True, False)

    def test_an_even_cord_turned(self):
        cord = even(pairs([1, 3, 4]), (5, 2))
        self.check(cord, cord.turned(), True, True)

    def test_gaps_times_and_weights_over_one_number(self):
        for beads in range(13):
            cord = some_cord(beads, 2, 310 + beads)
            for number in (Fraction(2), Fraction(1, 3), Fraction(LONG, OTHER_LONG)):
                other = taken(cord, number)
                self.check(cord, other, True, True)
                if beads > 0:
                    self.check(cord, other.turned(), True, False)
                    self.check(cord, Cord(other.gaps(), cord.weights()), False, False)
                    self.check(cord, Cord(cord.gaps(), other.weights()), False, False)

    def test_alike_with_the_end_loose_alone(self):
        # The last gap moves no loose worth.
        cord = Cord([(1, 1), (1, 2), (2, 1)], [(2, 1), (3, 1)])
        self.check(cord, Cord([(1, 1), (1, 2), (1, 3)], [(2, 1), (3, 1)]), False, True)
        self.check(cord_of(pairs([2, 4]), pairs([1, 3]), (1, 1)), cord_of(pairs([2, 5]), pairs([1, 3]), (7, 1)), False, True)

    def test_alike_with_the_end_held_alone(self):
        self.check(cord_of(pairs([2, 4]), pairs([1, 3]), (1, 1)),
                   cord_of(pairs([2, 4]), [(3, 2), (3, 1)], (7, 1)), True, False)

    def test_alike_with_neither(self):
        self.check(Cord([(1, 1), (1, 1)], [(1, 1)]), Cord([(1, 1), (1, 1)], [(2, 1)]), False, False)
        self.check(cord_of(pairs([2, 4]), pairs([1, 3]), (1, 1)), cord_of(pairs([2, 5]), pairs([1, 4]), (1, 1)), False, False)

    def test_some_worths_in_common_are_not_all(self):
        one = cord_of(pairs([2, 4]), pairs([1, 3]), (1, 1))
        self.check(one, cord_of(pairs([2]), pairs([1]), (1, 1)), False, False)
        self.check(one, cord_of(pairs([2, 4, 6]), pairs([1, 3, 5]), (1, 1)), False, False)

    def test_at_the_bounds(self):
        cord = some_cord(12, 30, 320)
        self.check(cord, cord.turned(), True, False)
        self.check(cord, taken(cord, Fraction(LONG, OTHER_LONG)), True, True)
        weights = cord.weights()
        weights[5] = pair(Fraction(*weights[5]) + Fraction(1, OTHER_LONG))
        self.check(cord, Cord(cord.gaps(), weights), False, False)


class SisterCase(unittest.TestCase):
    def check(self, cord, looses):
        """The loose worths are told as Python's fractions."""
        told = pairs(looses)
        kept = list(told)
        before = (cord.gaps(), cord.weights())
        with self.subTest(gaps=before[0], weights=before[1], looses=told):
            other = sister(cord, told)
            self.assertIs(type(other), Cord)
            self.assertEqual(held(other), held(cord))
            self.assertEqual(loose(other), product_of_worths(looses, 1))
            self.assertEqual(other.beads(), cord.beads())
            self.assertEqual(other.length(), cord.length())
            self.assertIs(alike(cord, other, "held"), True)
            self.assertEqual(told, kept)
            self.assertEqual((cord.gaps(), cord.weights()), before)
            for part in other.gaps() + other.weights():
                self.assertEqual([type(part)] + [type(number) for number in part], [tuple, int, int])
        return other

    def check_refused(self, cord, looses):
        told = pairs(looses)
        kept = list(told)
        before = (cord.gaps(), cord.weights())
        with self.subTest(gaps=before[0], weights=before[1], looses=told):
            with self.assertRaises(CordError) as caught:
                sister(cord, told)
            self.assertIs(type(caught.exception), NoWorth)
            self.assertEqual(told, kept)
            self.assertEqual((cord.gaps(), cord.weights()), before)


class TestSister(SisterCase):
    def test_no_bead(self):
        other = self.check(Cord([(3, 2)], []), [])
        self.assertEqual((other.gaps(), other.weights()), ([(3, 2)], []))

    def test_one_bead(self):
        # Its worth held is 2; with 1 as loose worth it stays, with 3/2 the bead hangs nearer to the near peg.
        cord = Cord([(1, 1), (1, 1)], [(1, 1)])
        other = self.check(cord, [1])
        self.assertEqual((other.gaps(), other.weights()), (cord.gaps(), cord.weights()))
        other = self.check(cord, [Fraction(3, 2)])
        self.assertEqual((other.gaps(), other.weights()), ([(1, 2), (3, 2)], [(4, 3)]))

    def test_its_own_loose_worths(self):
        for beads in range(1, 13):
            worths = [Fraction(k * k + k + 1, 3) for k in range(2 * beads)]
            cord = cord_of(pairs(worths[1::2]), pairs(worths[::2]), (7, 3))
            other = self.check(cord, worths[::2])
            self.assertEqual((other.gaps(), other.weights()), (cord.gaps(), cord.weights()))

    def test_other_loose_worths(self):
        for beads in range(1, 13):
            worths = [Fraction(3 * k) for k in range(1, 2 * beads + 1)]
            cord = cord_of(pairs(worths[1::2]), pairs(worths[::2]), (7, 3))
            looses = [worth + Fraction((-1) ** place, 2) for place, worth in enumerate(worths[::2])]
            other = self.check(cord, looses)
            wanted = cord_of(pairs(worths[1::2]), pairs(looses), (7, 3))
            self.assertEqual((other.gaps(), other.weights()), (wanted.gaps(), wanted.weights()))
            back = self.check(other, worths[::2])
            self.assertEqual((back.gaps(), back.weights()), (cord.gaps(), cord.weights()))

    def test_the_cord_turned(self):
        # The turned cord has the very held polynomial too: it is a sister by its own loose worths.
        cord = Cord([(1, 2), (3, 2)], [(4, 3)])
        other = self.check(cord, [Fraction(1, 2)])
        self.assertEqual((other.gaps(), other.weights()), ([(3, 2), (1, 2)], [(4, 3)]))

    def test_worths_held_that_are_no_fractions(self):
        # The worths held are 2 less, and 2 and, the root of 2, and 2 itself.
        cord = Cord([(1, 1)] * 4, [(1, 1)] * 3)
        for looses in ([Fraction(1, 2), 1, 3], [Fraction(1, 10 ** 30), Fraction(3, 5), Fraction(17, 5)],
                       [Fraction(58578, 100000), Fraction(19, 10), Fraction(34142, 10000)]):
            other = self.check(cord, looses)
            for place, worth in enumerate(looses):
                self.assertEqual((worths_below(other, "loose", pair(worth)), up_to(other, "loose", pair(worth))),
                                 (place, place + 1))

    def test_each_count_of_beads(self):
        for beads in range(13):
            cord = some_cord(beads, 2, 330 + beads)
            self.check(cord, [worth.limit_denominator(10 ** 4) for worth in between_the_held(cord, 40)])

    def test_numbers_of_thirty_figures(self):
        for beads in (1, 2, 3, 4):
            cord = some_cord(beads, 30, 340 + beads)
            self.check(cord, [worth.limit_denominator(10 ** 29) for worth in between_the_held(cord, 60)])

    def test_numbers_of_four_hundred_figures(self):
        chance = random.Random(345)
        for beads in (1, 2):
            cord = some_cord(beads, 30, 350 + beads)
            looses = [(worth * (1 + Fraction(1, chance.randrange(10 ** 50, 10 ** 51)))).limit_denominator(10 ** 399)
                      for worth in between_the_held(cord, 60)]
            looses = [Fraction(worth.numerator * 10 ** 200 // worth.denominator * 10 ** 190 + 7, 10 ** 390 + 1) for worth in looses]
            self.check(cord, looses)

    def test_what_is_handed_in_later(self):
        cord, looses = Cord([(1, 1), (1, 1)], [(1, 1)]), [(3, 2)]
        other = sister(cord, looses)
        looses.append((7, 1))
        looses[0] = (1, 9)
        other.gaps().clear()
        cord.weights().clear()
        self.assertEqual((other.gaps(), other.weights()), ([(1, 2), (3, 2)], [(4, 3)]))
        again = sister(cord, [(3, 2)])
        self.assertEqual((again.gaps(), again.weights()), ([(1, 2), (3, 2)], [(4, 3)]))


class TestNoSister(SisterCase):
    def setUp(self):
        self.cord = cord_of(pairs([2, 4, 6]), pairs([1, 3, 5]), (5, 3))

    def test_too_many_and_too_few(self):
        for looses in ([], [1], [1, 3], [3, 5], [1, 3, 5, 7], [1, 3, 5, 5], [Fraction(1, 2), 1, 3, 5]):
            self.check_refused(self.cord, looses)

    def test_no_bead_and_a_worth(self):
        for worth in (1, 0, -1, Fraction(LONG, OTHER_LONG)):
            self.check_refused(Cord([(3, 2)], []), [worth])

    def test_nought_and_below(self):
        for first in (0, -1, Fraction(-1, OTHER_LONG), -LONG):
            self.check_refused(self.cord, [first, 3, 5])
            self.check_refused(Cord([(1, 1), (1, 1)], [(1, 1)]), [first])
        self.check_refused(self.cord, [-5, -3, -1])

    def test_not_rising(self):
        for looses in ([3, 1, 5], [1, 5, 3], [5, 3, 1], [5, 1, 3], [3, 5, 1], [1, 1, 5], [1, 3, 3], [1, 1, 1], [3, 3, 5]):
            self.check_refused(self.cord, looses)

    def test_they_do_not_part_the_worths_held(self):
        for looses in ([1, Fraction(3, 2), 5], [Fraction(5, 2), 3, 5], [1, 3, 7], [1, 5, Fraction(11, 2)], [3, 5, 7],
                       [1, 3, Fraction(7, 2)], [Fraction(1, 3), Fraction(1, 2), 1], [7, 8, 9], [1, 8, 9]):
            self.check_refused(self.cord, looses)

    def test_a_worth_held_itself(self):
        for looses in ([2, 3, 5], [1, 2, 5], [1, 4, 5], [1, 3, 4], [1, 3, 6], [2, 4, 6], [1, 2, 4]):
            self.check_refused(self.cord, looses)
        self.check_refused(Cord([(1, 1), (1, 1)], [(1, 1)]), [2])
        # 2 is the second worth held here, the others are no fractions.
        cord = Cord([(1, 1)] * 4, [(1, 1)] * 3)
        self.check_refused(cord, [Fraction(1, 2), 2, 3])
        self.check_refused(cord, [Fraction(1, 2), 1, 2])

    def test_hard_by_a_worth_held(self):
        tiny = Fraction(1, 10 ** 399)
        for place in range(3):
            for looses in ([1, 3, 5], [2 - tiny, 2 + tiny, 4 + tiny]):
                looses = list(looses)
                looses[place] = 2 * place + 2 + tiny
                self.check_refused(self.cord, looses)
        self.check_refused(self.cord, [1, 2 - tiny, 5])
        self.check_refused(self.cord, [1, 3, 4 - tiny])
        cord = Cord([(1, 1), (1, 1)], [(1, 1)])
        self.check(cord, [2 - tiny])
        self.check_refused(cord, [2 + tiny])

    def test_worths_held_that_are_no_fractions(self):
        cord = Cord([(1, 1)] * 4, [(1, 1)] * 3)
        low, high = Fraction(1), Fraction(2)
        for halving in range(1000):
            middle = (low + high) / 2
            low, high = (middle, high) if middle * middle < 2 else (low, middle)
        self.check(cord, [2 - high, 1, 3])
        self.check(cord, [Fraction(1, 2), 2 - low, 2 + low])
        for looses in ([2 - low, 1, 3], [Fraction(1, 2), 2 - high, 3], [Fraction(1, 2), 1, 2 + high]):
            self.check_refused(cord, looses)

    def test_at_the_bounds(self):
        cord = some_cord(12, 30, 360)
        looses = [worth + Fraction(1, 10 ** 380) for worth in between_the_held(cord, 60)]
        looses = [Fraction(worth.numerator * 10 ** 360 // worth.denominator, 10 ** 360) for worth in looses]
        for place in (0, 5, 11):
            wrong = list(looses)
            wrong[place] = looses[place + 1] if place < 11 else looses[place] * 10 ** 9
            self.check_refused(cord, wrong)
            wrong[place] = looses[place - 1] if place > 0 else -looses[place]
            self.check_refused(cord, wrong)

    def test_the_worths_held_of_a_parted_cord_lie_there(self):
        # What is taken for the held polynomial is the cord's own, not one made of its worths.
        worth = worth_at(held(self.cord), (0, 1))
        self.assertEqual(worth, (5, 3))
        self.check(self.cord, [Fraction(3, 2), Fraction(5, 2), Fraction(9, 2)])


class TestInterface(unittest.TestCase):
    def test_parameters(self):
        wanted = {"alike": ["one", "other", "end"], "sister": ["cord", "looses"]}
        for name, parameters in wanted.items():
            with self.subTest(name):
                self.assertEqual(list(inspect.signature(getattr(sisters, name)).parameters), parameters)


if __name__ == "__main__":
    unittest.main()
