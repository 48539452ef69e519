import inspect
import random
import unittest
from fractions import Fraction

from tautcord import ladders
from tautcord.cords import Cord
from tautcord.errors import CordError, NoCord
from tautcord.ladders import ladder
from tautcord.tones import held, loose

LONG = 10 ** 29 + 319
OTHER_LONG = 10 ** 30 - 11


def pair(number):
    return (number.numerator, number.denominator)


def pairs(row):
    return [pair(Fraction(number)) for number in row]


def fractions(chance, count, figures):
    low, high = 10 ** (figures - 1), 10 ** figures
    return [pair(Fraction(chance.randrange(low, high), chance.randrange(low, high))) for place in range(count)]


def some_cord(beads, figures, seed):
    chance = random.Random(seed)
    return Cord(fractions(chance, beads + 1, figures), fractions(chance, beads, figures))


def steps_back(cord):
    """The gaps and weights in turns from the far peg on."""
    gaps, weights = cord.gaps(), cord.weights()
    row = [gaps.pop()]
    while weights:
        row += [weights.pop(), gaps.pop()]
    return row


def without_noughts(row):
    while row and row[-1] == 0:
        row = row[:-1]
    return row


def plus(one, other):
    most = max(len(one), len(other))
    one, other = [row + [Fraction(0)] * (most - len(row)) for row in (one, other)]
    return without_noughts([a + b for a, b in zip(one, other)])


def known_ladder(upper, lower):
    """Word for word, in fractions."""
    upper, lower = [Fraction(*figure) for figure in upper], [Fraction(*figure) for figure in lower]
    beads = len(upper) - 1
    quotients = []
    for place in range(2 * beads + 1):
        if place % 2 == 0:
            if place > 0 and len(lower) != beads - (place - 2) // 2:
                return (pairs(quotients), place)
            quotient = upper[-1] / lower[-1]
            upper = plus(upper, [-quotient * figure for figure in lower])
        else:
            if len(upper) != beads - (place - 1) // 2:
                return (pairs(quotients), place)
            quotient = -lower[-1] / upper[-1]
            lower = plus(lower, [Fraction(0)] + [quotient * figure for figure in upper])
        if quotient <= 0:
            return (pairs(quotients), place)
        quotients.append(quotient)
    return (pairs(quotients), None)


def with_quotients(quotients):
    """The two polynomials whose ladder has these quotients, none of them 0."""
    return climbed_back([], [1], quotients)


def climbed_back(upper, lower, quotients):
    """The two polynomials whose ladder comes to these two behind these quotients."""
    upper, lower = [[Fraction(figure) for figure in row] for row in (upper, lower)]
    for place in range(len(quotients) - 1, -1, -1):
        quotient = Fraction(quotients[place])
        if place % 2 == 0:
            upper = plus(upper, [quotient * figure for figure in lower])
        else:
            lower = plus(lower, [Fraction(0)] + [-quotient * figure for figure in upper])
    return (pairs(upper), pairs(lower))


class LadderCase(unittest.TestCase):
    def check(self, upper, lower, quotients, place):
        before = (list(upper), list(lower))
        with self.subTest(upper=upper, lower=lower):
            told = ladder(upper, lower)
            self.assertEqual(told, (quotients, place))
            self.assertEqual([type(thing) for thing in (told, told[0])], [tuple, list])
            self.assertEqual([type(one) for one in told[0]], [tuple] * len(quotients))
            self.assertEqual({type(number) for one in told[0] for number in one} - {int}, set())
            self.assertIs(type(told[1]), type(place))
            self.assertEqual((upper, lower), before)

    def check_known(self, upper, lower):
        quotients, place = known_ladder(upper, lower)
        self.check(upper, lower, quotients, place)
        return place

    def check_cord(self, cord):
        self.check(held(cord), loose(cord), steps_back(cord), None)


class TestOfCords(LadderCase):
    def test_no_bead(self):
        self.check([(3, 2)], [(1, 1)], [(3, 2)], None)
        self.check([(LONG, OTHER_LONG)], [(1, 1)], [(LONG, OTHER_LONG)], None)
        self.check_cord(Cord([(5, 7)], []))

    def test_one_bead(self):
        self.check([(3, 2), (-1, 2)], [(1, 1), (-1, 1)], [(1, 2), (1, 1), (1, 1)], None)
        self.check_cord(Cord([(3, 2), (1, 7)], [(5, 1)]))

    def test_two_beads(self):
        upper, lower = [(7, 2), (-14, 1), (6, 1)], [(1, 1), (-13, 2), (3, 1)]
        self.check(upper, lower, [(2, 1), (3, 1), (1, 2), (2, 1), (1, 1)], None)
        self.check_cord(Cord([(1, 1), (1, 2), (2, 1)], [(2, 1), (3, 1)]))

    def test_each_number_of_beads(self):
        for beads in range(13):
            for figures in (1, 3, 12):
                self.check_cord(some_cord(beads, figures, 40 + beads))

    def test_same_gaps_and_weights(self):
        for beads in range(13):
            self.check_cord(Cord([(1, 1)] * (beads + 1), [(1, 1)] * beads))

    def test_twelve_beads_of_thirty_figures(self):
        for seed in (41, 42):
            self.check_cord(some_cord(12, 30, seed))

    def test_very_unlike_gaps_and_weights(self):
        chance = random.Random(43)
        for beads in (1, 5, 12):
            row = [chance.choice(((LONG, 1), (1, LONG), (OTHER_LONG, LONG), (1, 2))) for place in range(2 * beads + 1)]
            self.check_cord(Cord(row[:beads + 1], row[beads + 1:]))


class TestNoCord(unittest.TestCase):
    def check_refused(self, upper, lower):
        before = (list(upper), list(lower))
        with self.subTest(upper=upper, lower=lower):
            with self.assertRaises(CordError) as caught:
                ladder(upper, lower)
            self.assertIs(type(caught.exception), NoCord)
            self.assertIsNone(caught.exception.place)
            self.assertEqual((upper, lower), before)

    def test_no_figures(self):
        self.check_refused([], [])
        self.check_refused([], [(1, 1)])
        self.check_refused([(1, 1)], [])

    def test_unlike_lengths(self):
        self.check_refused([(3, 2), (-1, 2)], [(1, 1)])
        self.check_refused([(3, 2)], [(1, 1), (-1, 1)])
        self.check_refused([(7, 2), (-14, 1), (6, 1)], [(1, 1), (-13, 2)])
        for beads in (2, 12):
            cord = some_cord(beads, 2, beads)
            self.check_refused(held(cord)[:-1], loose(cord))
            self.check_refused(held(cord), loose(cord)[:-1])

    def test_fourteen_figures_and_more(self):
        for beads in (13, 14, 29):
            upper, lower = with_quotients([1] * (2 * beads + 1))
            self.assertEqual((len(upper), len(lower)), (beads + 1, beads + 1))
            self.check_refused(upper, lower)
        upper, lower = with_quotients([1] * 27)
        self.check_refused(upper[:13], lower)
        self.check_refused(upper, lower[:13])

    def test_thirteen_figures_are_not_refused(self):
        upper, lower = with_quotients([1] * 25)
        self.assertEqual((len(upper), len(lower)), (13, 13))
        self.assertEqual(ladder(upper, lower), ([(1, 1)] * 25, None))

    def test_the_first_figure_of_lower(self):
        for first in ((2, 1), (1, 2), (-1, 1), (0, 1), (LONG, OTHER_LONG)):
            self.check_refused([(3, 2), (-1, 2)], [first, (-1, 1)])
        for first in ((2, 1), (1, 2), (-1, 1)):
            self.check_refused([(3, 2)], [first])
        cord = some_cord(12, 2, 44)
        self.check_refused(held(cord), [(2, 1)] + loose(cord)[1:])
        self.check_refused(held(cord), [(99, 100)] + loose(cord)[1:])

    def test_where_a_place_would_fail_too(self):
        self.check_refused([(3, 2), (1, 2)], [(2, 1), (-1, 1)])
        self.check_refused([(-3, 2)], [(-1, 1)])


class TestPlaceThatFails(LadderCase):
    def test_quotient_below_nought(self):
        self.check([(-3, 2)], [(1, 1)], [], 0)
        self.check([(3, 2), (1, 2)], [(1, 1), (-1, 1)], [], 0)
        # 3/2 - 1/2 x by 1 + x: below 0 at once. -3/2 - 1/2 x by 1 - x: 1/2, then 1 over -2.
        self.check([(3, 2), (-1, 2)], [(1, 1), (1, 1)], [], 0)
        self.check([(-3, 2), (-1, 2)], [(1, 1), (-1, 1)], [(1, 2)], 1)
        self.check([(3, 2), (1, 2)], [(1, 1), (1, 1)], [(1, 2)], 1)
        # 1 - 5/2 x and 1 - 1/10 x are left at place 2, -24 is left at place 3.
        self.check([(2, 1), (-3, 1), (1, 1)], [(1, 1), (-1, 2), (1, 1)], [(1, 1), (2, 5), (25, 1)], 3)

    def test_quotient_below_nought_at_each_place(self):
        for beads in (1, 2, 5, 12):
            for place in range(2 * beads + 1):
                for below in (-1, Fraction(-2, 3), -LONG, Fraction(-1, OTHER_LONG)):
                    quotients = [Fraction(k % 5 + 1, k % 3 + 1) for k in range(2 * beads + 1)]
                    quotients[place] = below
                    upper, lower = with_quotients(quotients)
                    self.check(upper, lower, pairs(quotients[:place]), place)

    def test_the_first_of_several_places(self):
        for beads in (2, 6):
            for place in range(2 * beads):
                quotients = [Fraction(1)] * place + [Fraction(-2)] * (2 * beads + 1 - place)
                upper, lower = with_quotients(quotients)
                self.check(upper, lower, pairs(quotients[:place]), place)

    def test_figures_not_due_at_an_odd_place(self):
        # 1 - x by 1 - x: the quotient 1 leaves nothing.
        self.check([(1, 1), (-1, 1)], [(1, 1), (-1, 1)], [(1, 1)], 1)
        # 2 - x + x x by 1 - x + x x: of two figures due one is left.
        self.check([(2, 1), (-1, 1), (1, 1)], [(1, 1), (-1, 1), (1, 1)], [(1, 1)], 1)
        # 1 - x + x x by itself: none is left.
        self.check([(1, 1), (-1, 1), (1, 1)], [(1, 1), (-1, 1), (1, 1)], [(1, 1)], 1)

    def test_figures_not_due_at_an_even_place(self):
        # The quotients 1 and 1/2 leave 1 in the place of lower, where two figures are due.
        self.check([(2, 1), (-5, 2), (1, 1)], [(1, 1), (-1, 2), (1, 1)], [(1, 1), (1, 2)], 2)

    def check_fewer_at(self, place, beads, figures):
        """At the place only so many figures of the one that divides are left."""
        due = beads - (place - 1) // 2
        row = [Fraction(power + 1, 3) for power in range(figures)]
        full = [Fraction(2 * power + 1, 5) for power in range(due)]
        quotients = [Fraction(k % 4 + 1, k % 3 + 2) for k in range(place)]
        if place % 2 == 1:
            upper, lower = climbed_back(row, [1] + full, quotients)
        else:
            upper, lower = climbed_back(full, [1] + row[1:], quotients)
        self.assertEqual((len(upper), len(lower)), (beads + 1, beads + 1))
        self.check(upper, lower, pairs(quotients), place)

    def test_fewer_figures_at_each_place(self):
        for beads in (1, 2, 3, 7, 12):
            for place in range(1, 2 * beads):
                due = beads - (place - 1) // 2
                for figures in range(0 if place % 2 == 1 else 1, due):
                    self.check_fewer_at(place, beads, figures)

    def test_the_last_place(self):
        for beads in (1, 3, 12):
            steps = [Fraction(*step) for step in steps_back(some_cord(beads, 2, 50 + beads))]
            upper, lower = with_quotients(steps[:-1] + [-steps[-1]])
            self.check(upper, lower, pairs(steps[:-1]), 2 * beads)

    def test_the_first_figure_of_upper_is_nought(self):
        self.check_known([(0, 1), (-1, 1)], [(1, 1), (-1, 1)])
        self.check_known([(0, 1), (-3, 1), (1, 1)], [(1, 1), (-3, 1), (1, 1)])

    def test_held_and_loose_the_other_way_about(self):
        for beads in (1, 2, 6):
            cord = some_cord(beads, 1, 60 + beads)
            length = Fraction(*cord.length())
            upper = pairs([Fraction(*figure) * length for figure in loose(cord)])
            lower = pairs([Fraction(*figure) / length for figure in held(cord)])
            self.check_known(upper, lower)

    def test_word_for_word(self):
        chance = random.Random(45)
        seen = {}
        for turn in range(4000):
            beads = turn % 5
            upper = [(chance.randrange(-4, 5), 1) for place in range(beads)] + [(chance.choice((-2, -1, 1, 2)), 1)]
            lower = [(1, 1)] + [(chance.randrange(-4, 5), 1) for place in range(beads - 1)]
            lower += [(chance.choice((-2, -1, 1, 2)), 1)] * (beads > 0)
            if chance.random() < 0.8 and beads > 0:
                # Such figures go further than others: their signs change in turns.
                upper = [(abs(top) * (-1) ** power, 1) for power, (top, one) in enumerate(upper)]
                lower = [(abs(top) * (-1) ** power, 1) for power, (top, one) in enumerate(lower)]
            place = self.check_known(upper, lower)
            seen[place] = seen.get(place, 0) + 1
        for place in (None, 0, 1, 2, 3, 4):
            self.assertGreater(seen.get(place, 0), 5, seen)


class TestBounds(LadderCase):
    def long(self, chance, about):
        """A fraction with a top and a bottom of 400 figures, close to what is told."""
        bottom = chance.randrange(10 ** 398, 10 ** 399)
        return pair(Fraction(about) + Fraction(chance.randrange(10 ** 300), bottom))

    def test_figures_of_four_hundred(self):
        chance = random.Random(46)
        for quotients in ([3], [1, 2, 3], [2, 1, 1, 3, 1]):
            for turn in range(3):
                upper, lower = with_quotients(quotients)
                upper = [self.long(chance, Fraction(*figure)) for figure in upper]
                lower = [(1, 1)] + [self.long(chance, Fraction(*figure)) for figure in lower[1:]]
                self.assertIsNone(self.check_known(upper, lower))

    def test_thirteen_figures_of_four_hundred(self):
        chance = random.Random(47)
        for place in range(3):
            quotients = [Fraction(1)] * 25
            quotients[place] = Fraction(-1, 3)
            upper, lower = with_quotients(quotients)
            upper = [self.long(chance, Fraction(*figure)) for figure in upper]
            lower = [(1, 1)] + [self.long(chance, Fraction(*figure)) for figure in lower[1:]]
            self.assertEqual(self.check_known(upper, lower), place)

    def test_thirteen_figures_over_one_bottom_of_four_hundred(self):
        chance = random.Random(48)
        bottom = 10 ** 399 + 7
        for place in (11, 24):
            quotients = [Fraction(1)] * 25
            quotients[place] = Fraction(-1)
            upper, lower = with_quotients(quotients)
            upper = [pair(Fraction(*figure) + Fraction(chance.randrange(10 ** 300), bottom)) for figure in upper]
            lower = [(1, 1)] + [pair(Fraction(*figure) + Fraction(chance.randrange(10 ** 300), bottom))
                                for figure in lower[1:]]
            self.assertEqual(self.check_known(upper, lower), place)


class TestToldIsTheAskersOwn(unittest.TestCase):
    def test_quotients(self):
        upper, lower = [(3, 2), (-1, 2)], [(1, 1), (-1, 1)]
        wanted = [(1, 2), (1, 1), (1, 1)]
        told, kept = ladder(upper, lower)[0], ladder(upper, lower)[0]
        told.append((7, 1))
        told[0] = (0, 1)
        self.assertEqual(kept, wanted)
        self.assertEqual(ladder(upper, lower), (wanted, None))
        upper.clear()
        lower[1] = (5, 1)
        self.assertEqual(kept, wanted)

    def test_no_quotients(self):
        ladder([(-1, 1)], [(1, 1)])[0].append((1, 1))
        self.assertEqual(ladder([(-1, 1)], [(1, 1)]), ([], 0))


class TestInterface(unittest.TestCase):
    def test_parameters(self):
        self.assertEqual(list(inspect.signature(ladders.ladder).parameters), ["upper", "lower"])


if __name__ == "__main__":
    unittest.main()
