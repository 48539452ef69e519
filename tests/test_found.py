import inspect
import random
import unittest
from fractions import Fraction

from tautcord import found
from tautcord.cords import Cord
from tautcord.counts import up_to, worths_below
from tautcord.errors import CordError, NoCord, NoWorth
from tautcord.found import cord_of, cord_with, even
from tautcord.polys import worth_at
from tautcord.tones import held, loose

LONG = 10 ** 29 + 319
OTHER_LONG = 10 ** 30 - 11

ENDS = ("held", "loose")


def pair(number):
    return (number.numerator, number.denominator)


def pairs(row):
    return [pair(Fraction(number)) for number in row]


def fractions(chance, count, figures):
    low, high = 10 ** (figures - 1), 10 ** figures
    return [pair(Fraction(chance.randrange(low, high), chance.randrange(low, high))) for place in range(count)]


def some_cord(beads, figures, seed):
    chance = random.Random(seed)
    return Cord(fractions(chance, beads + 1, figures), fractions(chance, beads, figures))


def rising(chance, count, figures, bottoms=True):
    """So many unlike fractions above 0, rising."""
    low, high = 10 ** (figures - 1), 10 ** figures
    row = set()
    while len(row) < count:
        row.add(Fraction(chance.randrange(low, high), chance.randrange(low, high) if bottoms else 1))
    return sorted(row)


def product_of_worths(worths, times):
    row = [Fraction(times)]
    for worth in worths:
        row = [a - b / worth for a, b in zip(row + [Fraction(0)], [Fraction(0)] + row)]
    return pairs(row)


def with_quotients(quotients):
    """The two polynomials whose ladder has these quotients, none of them 0."""
    upper, lower = [Fraction(0)], [Fraction(1)]
    for place in range(len(quotients) - 1, -1, -1):
        quotient = Fraction(quotients[place])
        if place % 2 == 0:
            upper = [a + quotient * b for a, b in zip(upper, lower)]
        else:
            lower = [a - quotient * b for a, b in zip(lower + [0], [0] + upper)]
            upper = upper + [Fraction(0)]
    return (pairs(upper), pairs(lower))


class FoundCase(unittest.TestCase):
    def check_same(self, cord, gaps, weights):
        self.assertIs(type(cord), Cord)
        self.assertEqual((cord.gaps(), cord.weights()), (gaps, weights))

    def check_refused(self, error, asked, *told):
        before = [list(thing) for thing in told]
        with self.subTest(asked=asked.__name__, told=told):
            with self.assertRaises(CordError) as caught:
                asked(*told)
            self.assertIs(type(caught.exception), error)
            self.assertEqual([list(thing) for thing in told], before)
        return caught.exception


class TestCordWith(FoundCase):
    def check_back(self, cord):
        upper, lower = held(cord), loose(cord)
        with self.subTest(gaps=cord.gaps(), weights=cord.weights()):
            back = cord_with(upper, lower)
            self.check_same(back, cord.gaps(), cord.weights())
            self.assertEqual((held(back), loose(back)), (upper, lower))
            self.assertEqual((upper, lower), (held(cord), loose(cord)))

    def test_some(self):
        self.check_same(cord_with([(3, 2)], [(1, 1)]), [(3, 2)], [])
        self.check_same(cord_with([(3, 2), (-1, 2)], [(1, 1), (-1, 1)]), [(1, 1), (1, 2)], [(1, 1)])
        upper, lower = [(7, 2), (-14, 1), (6, 1)], [(1, 1), (-13, 2), (3, 1)]
        self.check_same(cord_with(upper, lower), [(1, 1), (1, 2), (2, 1)], [(2, 1), (3, 1)])

    def test_there_and_back(self):
        for beads in range(13):
            for figures in (1, 4):
                self.check_back(some_cord(beads, figures, 70 + beads))
            self.check_back(Cord([(1, 1)] * (beads + 1), [(2, 3)] * beads))

    def test_there_and_back_at_the_bounds(self):
        self.check_back(some_cord(12, 30, 71))
        self.check_back(Cord([(LONG, OTHER_LONG)] * 13, [(1, LONG), (OTHER_LONG, 1)] * 6))

    def test_the_turned_cord_is_told_by_its_own(self):
        cord = Cord([(1, 1), (1, 2), (2, 1)], [(2, 1), (3, 1)])
        turned = cord.turned()
        self.assertEqual(held(cord), held(turned))
        self.check_same(cord_with(held(turned), loose(turned)), [(2, 1), (1, 2), (1, 1)], [(3, 1), (2, 1)])

    def test_the_place_that_fails(self):
        for beads in (0, 1, 2, 6, 12):
            for place in range(2 * beads + 1):
                quotients = [Fraction(k % 5 + 1, k % 3 + 1) for k in range(2 * beads + 1)]
                quotients[place] *= -1
                error = self.check_refused(NoCord, cord_with, *with_quotients(quotients))
                self.assertEqual(error.place, place)
                self.assertIs(type(error.place), int)

    def test_figures_that_are_not_due(self):
        for upper, lower, place in (([(1, 1), (-1, 1)], [(1, 1), (-1, 1)], 1),
                                    ([(2, 1), (-1, 1), (1, 1)], [(1, 1), (-1, 1), (1, 1)], 1),
                                    ([(2, 1), (-5, 2), (1, 1)], [(1, 1), (-1, 2), (1, 1)], 2)):
            error = self.check_refused(NoCord, cord_with, upper, lower)
            self.assertEqual(error.place, place)

    def test_no_place(self):
        upper, lower = with_quotients([1] * 27)
        for told in (([], []), ([(1, 1)], []), ([(3, 2), (-1, 2)], [(1, 1)]), ([(3, 2)], [(1, 1), (-1, 1)]),
                     ([(3, 2)], [(2, 1)]), ([(3, 2), (-1, 2)], [(1, 2), (-1, 1)]), (upper, lower)):
            self.assertIsNone(self.check_refused(NoCord, cord_with, *told).place)

    def test_what_is_handed_in_later(self):
        upper, lower = [(3, 2), (-1, 2)], [(1, 1), (-1, 1)]
        cord = cord_with(upper, lower)
        upper.clear()
        lower[0] = (7, 1)
        cord.gaps().append((1, 1))
        self.check_same(cord, [(1, 1), (1, 2)], [(1, 1)])


class TestCordOf(FoundCase):
    def check(self, helds, looses, length):
        """The worths and the length are told as Python's fractions."""
        told = (pairs(helds), pairs(looses), pair(Fraction(length)))
        before = (list(told[0]), list(told[1]), told[2])
        with self.subTest(told=told):
            cord = cord_of(*told)
            self.assertIs(type(cord), Cord)
            self.assertEqual(cord.beads(), len(helds))
            self.assertEqual(cord.length(), told[2])
            self.assertEqual(held(cord), product_of_worths(helds, length))
            self.assertEqual(loose(cord), product_of_worths(looses, 1))
            self.assertEqual(told, before)
        return cord

    def check_counts(self, cord, worths, end):
        for place, worth in enumerate(worths):
            self.assertEqual(worths_below(cord, end, pair(worth)), place)
            self.assertEqual(up_to(cord, end, pair(worth)), place + 1)

    def test_no_worths(self):
        self.check_same(self.check([], [], Fraction(3, 2)), [(3, 2)], [])
        self.check_same(self.check([], [], 10 ** 400 - 1), [(10 ** 400 - 1, 1)], [])

    def test_one_bead(self):
        # 1 over 1 and 1 over 1/2, together, over 1; and 1 over 1, over 1.
        self.check_same(self.check([Fraction(3)], [Fraction(1)], Fraction(3, 2)), [(1, 1), (1, 2)], [(1, 1)])
        self.check_same(self.check([Fraction(23, 15)], [Fraction(2, 15)], Fraction(23, 14)), [(3, 2), (1, 7)], [(5, 1)])

    def test_two_beads(self):
        cord = self.check([Fraction(2), Fraction(4)], [Fraction(1), Fraction(3)], 1)
        self.check_same(cord, [(1, 8), (1, 2), (3, 8)], [(4, 1), (4, 3)])
        self.check_counts(cord, [Fraction(2), Fraction(4)], "held")
        self.check_counts(cord, [Fraction(1), Fraction(3)], "loose")

    def test_each_number_of_worths(self):
        chance = random.Random(80)
        for count in range(13):
            for figures in (2, 5):
                for bottoms in (True, False):
                    worths = rising(chance, 2 * count, figures, bottoms)
                    length = Fraction(chance.randrange(1, 99), chance.randrange(1, 99))
                    cord = self.check(worths[1::2], worths[::2], length)
                    self.check_counts(cord, worths[1::2], "held")
                    self.check_counts(cord, worths[::2], "loose")

    def test_there_and_back(self):
        chance = random.Random(81)
        for count in (1, 2, 5, 12):
            worths = rising(chance, 2 * count, 2)
            cord = self.check(worths[1::2], worths[::2], Fraction(7, 3))
            self.check_same(cord_with(held(cord), loose(cord)), cord.gaps(), cord.weights())

    def test_worths_close_to_one_another(self):
        for count in (2, 6):
            worths = [1 + Fraction(k, 10 ** 20) for k in range(2 * count)]
            self.check(worths[1::2], worths[::2], Fraction(1, 10 ** 20))

    def test_longer_cords_are_taken_as_many_times(self):
        # Only the length is another one: gaps grow with it, weights fall.
        worths = [Fraction(k * k + 1, 7) for k in range(8)]
        one = self.check(worths[1::2], worths[::2], 1)
        other = self.check(worths[1::2], worths[::2], Fraction(5, 3))
        self.assertEqual(other.gaps(), pairs([Fraction(*gap) * Fraction(5, 3) for gap in one.gaps()]))
        self.assertEqual(other.weights(), pairs([Fraction(*weight) / Fraction(5, 3) for weight in one.weights()]))

    def test_numbers_of_thirty_figures(self):
        chance = random.Random(82)
        for count in (1, 3, 6):
            worths = rising(chance, 2 * count, 30)
            self.check(worths[1::2], worths[::2], Fraction(LONG, OTHER_LONG))

    def test_numbers_of_four_hundred_figures(self):
        chance = random.Random(83)
        length = Fraction(chance.randrange(10 ** 399, 10 ** 400), chance.randrange(10 ** 399, 10 ** 400))
        worths = rising(chance, 2, 400)
        self.check(worths[1::2], worths[::2], length)
        worths = rising(chance, 4, 400, False)
        self.check(worths[1::2], worths[::2], Fraction(1, 3))

    def test_worths_that_do_not_rise_in_turns(self):
        one = (1, 1)
        for helds, looses in (([1], [2]), ([1], [1]), ([2, 4], [1, 5]), ([2, 4], [3, 1]), ([4, 2], [1, 3]), ([4, 2], [3, 1]),
                              ([2, 4], [1, 2]), ([2, 3], [1, 3]), ([3, 4], [1, 2]), ([2, 2], [1, 2]), ([2, 4], [1, 4]),
                              ([1, 3], [2, 4]), ([5, 6, 7], [1, 2, 3]), ([2, 6, 4], [1, 5, 3])):
            self.check_refused(NoWorth, cord_of, pairs(helds), pairs(looses), one)

    def test_each_neighbour_of_a_long_row(self):
        worths = pairs(range(1, 25))
        self.assertEqual(cord_of(worths[1::2], worths[::2], (1, 1)).beads(), 12)
        for place in range(23):
            row = list(worths)
            row[place + 1] = row[place]
            self.check_refused(NoWorth, cord_of, row[1::2], row[::2], (1, 1))
            row = list(worths)
            row[place], row[place + 1] = row[place + 1], row[place]
            self.check_refused(NoWorth, cord_of, row[1::2], row[::2], (1, 1))

    def test_worths_not_above_nought(self):
        for helds, looses in (([1], [0]), ([1], [-1]), ([1], [Fraction(-1, OTHER_LONG)]), ([-1], [-2]), ([0], [-1]),
                              ([2, 4], [0, 3]), ([2, 4], [-1, 3]), ([-1, 4], [-2, 3]), ([-3, -1], [-4, -2]), ([0], [0])):
            self.check_refused(NoWorth, cord_of, pairs(helds), pairs(looses), (1, 1))

    def test_lists_unlike_in_length(self):
        for helds, looses in (([], [1]), ([1], []), ([2], [1, 3]), ([2, 4], [1]), ([2, 4], [1, 3, 5])):
            self.check_refused(NoWorth, cord_of, pairs(helds), pairs(looses), (1, 1))
        worths = pairs(range(1, 26))
        self.check_refused(NoWorth, cord_of, worths[1::2], worths[::2], (1, 1))

    def test_thirteen_worths(self):
        for count in (13, 14, 20):
            worths = pairs(range(1, 2 * count + 1))
            self.check_refused(NoWorth, cord_of, worths[1::2], worths[::2], (1, 1))

    def test_length_not_above_nought(self):
        for length in ((0, 1), (-1, 1), (-1, OTHER_LONG), (-LONG, 1)):
            self.check_refused(NoWorth, cord_of, [], [], length)
            self.check_refused(NoWorth, cord_of, [(3, 1)], [(1, 1)], length)
            self.check_refused(NoWorth, cord_of, [(2, 1), (4, 1)], [(1, 1), (3, 1)], length)

    def test_what_is_handed_in_later(self):
        helds, looses = [(3, 1)], [(1, 1)]
        cord = cord_of(helds, looses, (3, 2))
        helds[0] = (9, 1)
        looses.append((7, 1))
        cord.weights().clear()
        self.check_same(cord, [(1, 1), (1, 2)], [(1, 1)])
        self.check_same(cord_of([(3, 1)], [(1, 1)], (3, 2)), [(1, 1), (1, 2)], [(1, 1)])


class TestEven(FoundCase):
    def check(self, helds, length):
        """There is just one cord that is the same turned and has these worths held and this length."""
        told = (pairs(helds), pair(Fraction(length)))
        before = (list(told[0]), told[1])
        with self.subTest(told=told):
            cord = even(*told)
            self.assertIs(type(cord), Cord)
            self.assertEqual(cord.beads(), len(helds))
            self.assertEqual(cord.length(), told[1])
            self.check_same(cord.turned(), cord.gaps(), cord.weights())
            self.assertEqual(held(cord), product_of_worths(helds, length))
            lower = loose(cord)
            for k, worth in enumerate(told[0], start=1):
                self.assertEqual(worth_at(lower, worth), ((-1) ** k, 1))
            self.assertEqual(told, before)
        return cord

    def test_no_worths(self):
        self.check_same(self.check([], Fraction(3, 2)), [(3, 2)], [])

    def test_one_bead(self):
        self.check_same(self.check([2], 2), [(1, 1), (1, 1)], [(1, 1)])
        self.check_same(self.check([Fraction(8, 3)], 1), [(1, 2), (1, 2)], [(3, 2)])

    def test_two_beads(self):
        self.check_same(self.check([1, 3], 3), [(1, 1)] * 3, [(1, 1)] * 2)
        # Two beads of 3, gaps 1/2, 2, 1/2: 2/3 with both up, 3/3 with the one up and the other down.
        self.check_same(self.check([Fraction(2, 3), 1], 3), [(1, 2), (2, 1), (1, 2)], [(3, 1)] * 2)

    def test_three_beads(self):
        # With the middle bead at 0 the worth is 2; else 2 - x times 2 - 4/3 x is 2.
        self.check_same(self.check([Fraction(1, 2), 2, 3], 4), [(1, 1)] * 4, [(1, 1), (4, 3), (1, 1)])

    def test_each_number_of_worths(self):
        chance = random.Random(90)
        for count in range(13):
            for figures in (2, 5):
                for bottoms in (True, False):
                    length = Fraction(chance.randrange(1, 99), chance.randrange(1, 99))
                    self.check(rising(chance, count, figures, bottoms), length)

    def test_worths_close_to_one_another(self):
        for count in (2, 5, 6):
            self.check([1 + Fraction(k, 10 ** 20) for k in range(count)], Fraction(1, 10 ** 20))

    def test_numbers_of_thirty_figures(self):
        chance = random.Random(91)
        for count in (1, 2, 5, 8):
            self.check(rising(chance, count, 30), Fraction(LONG, OTHER_LONG))
        self.check(rising(chance, 12, 30, False), Fraction(LONG, OTHER_LONG))

    def test_numbers_of_four_hundred_figures(self):
        chance = random.Random(92)
        length = Fraction(chance.randrange(10 ** 399, 10 ** 400), chance.randrange(10 ** 399, 10 ** 400))
        self.check([], length)
        self.check(rising(chance, 1, 400), length)
        self.check(rising(chance, 2, 400), length)
        self.check(rising(chance, 3, 400), 1)

    def test_worths_that_do_not_rise(self):
        for helds in ([1, 1], [2, 1], [1, 3, 2], [1, 3, 3], [2, 2, 3], [3, 1, 2], [1, 2, 4, 3]):
            self.check_refused(NoWorth, even, pairs(helds), (1, 1))
        worths = pairs(range(1, 13))
        self.assertEqual(even(worths, (1, 1)).beads(), 12)
        for place in range(11):
            row = list(worths)
            row[place + 1] = row[place]
            self.check_refused(NoWorth, even, row, (1, 1))
            row = list(worths)
            row[place], row[place + 1] = row[place + 1], row[place]
            self.check_refused(NoWorth, even, row, (1, 1))

    def test_worths_not_above_nought(self):
        for helds in ([0], [-1], [0, 1], [-1, 1], [-2, -1], [-1, 0, 1], [Fraction(-1, OTHER_LONG), 2]):
            self.check_refused(NoWorth, even, pairs(helds), (1, 1))

    def test_thirteen_worths(self):
        for count in (13, 14, 25):
            self.check_refused(NoWorth, even, pairs(range(1, count + 1)), (1, 1))

    def test_length_not_above_nought(self):
        for length in ((0, 1), (-1, 1), (-1, OTHER_LONG), (-LONG, 1)):
            for helds in ([], [1], [1, 2], [1, 2, 3]):
                self.check_refused(NoWorth, even, pairs(helds), length)

    def test_what_is_handed_in_later(self):
        helds = [(1, 1), (3, 1)]
        cord = even(helds, (3, 1))
        helds.clear()
        cord.gaps().clear()
        self.check_same(cord, [(1, 1)] * 3, [(1, 1)] * 2)
        self.check_same(even([(1, 1), (3, 1)], (3, 1)), [(1, 1)] * 3, [(1, 1)] * 2)


class TestInterface(unittest.TestCase):
    def test_parameters(self):
        wanted = {"cord_with": ["upper", "lower"], "cord_of": ["helds", "looses", "length"], "even": ["helds", "length"]}
        for name, parameters in wanted.items():
            with self.subTest(name):
                self.assertEqual(list(inspect.signature(getattr(found, name)).parameters), parameters)


if __name__ == "__main__":
    unittest.main()
