import copy
import inspect
import random
import unittest
from fractions import Fraction

from tautcord import changes
from tautcord.changes import cut, heavier, joined, longer
from tautcord.cords import Cord
from tautcord.counts import worths_below
from tautcord.errors import CordError, NoBead, NoCord
from tautcord.polys import poly_minus, poly_plus, poly_times, scaled
from tautcord.tones import free, held, loose, near

LONG = 10 ** 29 + 319
OTHER_LONG = 10 ** 30 - 11

ENDS = ("held", "loose")

NO_FRACTIONS_ABOVE = [
    (0, 1), (-1, 1), (-1, 2), (-LONG, OTHER_LONG), (0, 2), (0, 0), (2, 2), (2, 4), (LONG, LONG), (6, 3),
    (1, 0), (1, -1), (1, -2), (-1, -2), (-1, 0), (True, 1), (1, True), (True, True), (False, 1), (2, True),
    True, False, 0, 1, 2, LONG, -1, None, "", "1", "1/2", "12", [], [1, 1], [1, 2], [(1, 1)], (), (1,), (1, 1, 1), (1, 2, 3),
    (None, 1), (1, None), ("1", 1), (1, "2"), ("1", "2"), ([1], 1), (1, [1]), ((1, 1), 1), ((1, 1), (1, 1)),
    [[[[1]]]], ((((1,),),),),
]


def pair(number):
    return (number.numerator, number.denominator)


def total(one, other):
    return pair(Fraction(*one) + Fraction(*other))


def fractions(chance, count, figures):
    low, high = 10 ** (figures - 1), 10 ** figures
    return [pair(Fraction(chance.randrange(low, high), chance.randrange(low, high))) for place in range(count)]


def some_cord(beads, figures, seed):
    chance = random.Random(seed)
    return Cord(fractions(chance, beads + 1, figures), fractions(chance, beads, figures))


def numbers_about(cord, chance):
    """Numbers at which a cord's counts are asked: 0, below 0, and some up to above all worths."""
    high = sum(((1 / Fraction(*ahead) + 1 / Fraction(*behind)) / Fraction(*weight)
                for ahead, behind, weight in zip(cord.gaps(), cord.gaps()[1:], cord.weights())), Fraction(1))
    row = [Fraction(-1), Fraction(0), high] + [high * Fraction(chance.randrange(1, 400), 400) for place in range(4)]
    return [pair(number) for number in row + [high * Fraction(chance.randrange(1, 60), 999) for place in range(6)]]


class ChangeCase(unittest.TestCase):
    def check_row(self, told, answer):
        self.assertEqual(told, answer)
        self.assertIs(type(told), list)
        for part in told:
            self.assertIs(type(part), tuple)
            self.assertEqual([type(number) for number in part], [int, int])

    def check_same(self, cord, gaps, weights):
        self.assertIs(type(cord), Cord)
        self.check_row(cord.gaps(), gaps)
        self.check_row(cord.weights(), weights)

    def check_refused(self, error, asked, *told):
        """The first thing told is a cord, which has to stay."""
        gaps, weights = told[0].gaps(), told[0].weights()
        before = copy.deepcopy(told[1:]) if asked is not joined else None
        with self.subTest(asked=asked.__name__, told=told[1:]):
            with self.assertRaises(CordError) as caught:
                asked(*told)
            self.assertIs(type(caught.exception), error)
            if error is NoCord:
                self.assertIsNone(caught.exception.place)
            self.check_same(told[0], gaps, weights)
            if before is not None:
                self.assertEqual(told[1:], before)


class TestHeavier(ChangeCase):
    def check(self, cord, bead, more):
        gaps, weights = cord.gaps(), cord.weights()
        wanted = list(weights)
        wanted[bead - 1] = total(weights[bead - 1], more)
        with self.subTest(gaps=gaps, weights=weights, bead=bead, more=more):
            told = heavier(cord, bead, more)
            self.check_same(told, gaps, wanted)
            self.check_same(cord, gaps, weights)

    def test_some(self):
        cord = Cord([(1, 1), (1, 2), (2, 1), (1, 3)], [(2, 1), (3, 1), (1, 4)])
        self.check_same(heavier(cord, 1, (1, 3)), cord.gaps(), [(7, 3), (3, 1), (1, 4)])
        self.check_same(heavier(cord, 2, (1, 1)), cord.gaps(), [(2, 1), (4, 1), (1, 4)])
        self.check_same(heavier(cord, 3, (1, 4)), cord.gaps(), [(2, 1), (3, 1), (1, 2)])

    def test_each_bead(self):
        chance = random.Random(200)
        for beads in range(1, 13):
            for figures in (1, 30):
                cord = some_cord(beads, figures, beads)
                for bead in range(1, beads + 1):
                    self.check(cord, bead, fractions(chance, 1, figures)[0])

    def test_long_numbers(self):
        cord = Cord([(1, 1), (1, 1)], [(1, LONG)])
        self.check(cord, 1, (1, OTHER_LONG))
        self.check(cord, 1, (OTHER_LONG, LONG))
        self.check(cord, 1, (LONG - 1, LONG))

    def test_again_and_again(self):
        cord = Cord([(1, 1), (1, 1)], [(1, 1)])
        for bottom in range(2, 60):
            cord = heavier(cord, 1, (1, bottom))
        whole = sum(Fraction(1, bottom) for bottom in range(1, 60))
        self.check_same(cord, [(1, 1), (1, 1)], [pair(whole)])

    def test_no_such_bead(self):
        for beads in (0, 1, 2, 12):
            cord = some_cord(beads, 2, 201)
            for bead in (0, -1, -2, -beads, -beads - 1, beads + 1, beads + 2, 13, LONG, -LONG, OTHER_LONG):
                if 1 <= bead <= beads:
                    continue
                self.check_refused(NoBead, heavier, cord, bead, (1, 2))

    def test_no_such_bead_comes_first(self):
        cord = some_cord(2, 2, 202)
        for more in NO_FRACTIONS_ABOVE:
            for bead in (0, -1, 3, LONG):
                self.check_refused(NoBead, heavier, cord, bead, more)

    def test_no_fraction_above_nought(self):
        cord = some_cord(3, 2, 203)
        for more in NO_FRACTIONS_ABOVE:
            for bead in (1, 2, 3):
                self.check_refused(NoCord, heavier, cord, bead, more)


class TestLonger(ChangeCase):
    def check(self, cord, gap, more):
        gaps, weights = cord.gaps(), cord.weights()
        wanted = list(gaps)
        wanted[gap] = total(gaps[gap], more)
        with self.subTest(gaps=gaps, weights=weights, gap=gap, more=more):
            told = longer(cord, gap, more)
            self.check_same(told, wanted, weights)
            self.assertEqual(told.length(), total(cord.length(), more))
            self.check_same(cord, gaps, weights)

    def test_some(self):
        cord = Cord([(1, 1), (1, 2), (2, 1)], [(2, 1), (3, 1)])
        self.check_same(longer(cord, 0, (1, 3)), [(4, 3), (1, 2), (2, 1)], cord.weights())
        self.check_same(longer(cord, 1, (1, 2)), [(1, 1), (1, 1), (2, 1)], cord.weights())
        self.check_same(longer(cord, 2, (5, 1)), [(1, 1), (1, 2), (7, 1)], cord.weights())

    def test_no_bead(self):
        self.check_same(longer(Cord([(1, 6)], []), 0, (1, 3)), [(1, 2)], [])

    def test_each_gap(self):
        chance = random.Random(210)
        for beads in range(13):
            for figures in (1, 30):
                cord = some_cord(beads, figures, beads)
                for gap in range(beads + 1):
                    self.check(cord, gap, fractions(chance, 1, figures)[0])

    def test_no_such_gap(self):
        for beads in (0, 1, 2, 12):
            cord = some_cord(beads, 2, 211)
            for gap in (-1, -2, -beads - 1, -beads - 2, beads + 1, beads + 2, 13, LONG, -LONG, OTHER_LONG):
                self.check_refused(NoBead, longer, cord, gap, (1, 2))

    def test_no_such_gap_comes_first(self):
        cord = some_cord(2, 2, 212)
        for more in NO_FRACTIONS_ABOVE:
            for gap in (-1, -3, 3, LONG):
                self.check_refused(NoBead, longer, cord, gap, more)

    def test_no_fraction_above_nought(self):
        for more in NO_FRACTIONS_ABOVE:
            for gap in (0, 1, 2):
                self.check_refused(NoCord, longer, some_cord(2, 2, 213), gap, more)
            self.check_refused(NoCord, longer, Cord([(1, 1)], []), 0, more)


class TestNoWorthIsRaised(unittest.TestCase):
    def check(self, cord, other, numbers):
        for t in numbers:
            for end in ENDS:
                with self.subTest(gaps=cord.gaps(), weights=cord.weights(), end=end, t=t):
                    self.assertGreaterEqual(worths_below(other, end, t), worths_below(cord, end, t))

    def test_heavier_and_longer(self):
        chance = random.Random(220)
        for beads in range(13):
            cord = some_cord(beads, 2, 221 + beads)
            numbers = numbers_about(cord, chance)
            for place in range(beads + 1):
                self.check(cord, longer(cord, place, fractions(chance, 1, 1)[0]), numbers)
            for bead in range(1, beads + 1):
                self.check(cord, heavier(cord, bead, fractions(chance, 1, 1)[0]), numbers)

    def test_at_the_bounds(self):
        chance = random.Random(222)
        cord = some_cord(12, 30, 223)
        numbers = fractions(chance, 3, 100) + numbers_about(cord, chance)
        self.check(cord, longer(cord, 6, (LONG, OTHER_LONG)), numbers)
        self.check(cord, heavier(cord, 12, (1, OTHER_LONG)), numbers)

    def test_it_tells_somewhere(self):
        # One bead between gaps of 1 has the worth 2 held and 1 loose.
        cord = Cord([(1, 1), (1, 1)], [(1, 1)])
        self.assertEqual([worths_below(cord, end, (2, 1)) for end in ENDS], [0, 1])
        self.assertEqual([worths_below(cord, end, (1, 1)) for end in ENDS], [0, 0])
        self.assertEqual(worths_below(heavier(cord, 1, (1, 1)), "held", (2, 1)), 1)
        self.assertEqual(worths_below(longer(cord, 1, (1, 1)), "held", (2, 1)), 1)
        self.assertEqual(worths_below(longer(cord, 0, (1, 1)), "loose", (1, 1)), 1)
        self.assertEqual(worths_below(longer(cord, 1, (1, 1)), "loose", (1, 1)), 0)


class TestJoined(ChangeCase):
    def check(self, one, other):
        before = [one.gaps(), one.weights(), other.gaps(), other.weights()]
        gaps = one.gaps()[:-1] + [total(one.gaps()[-1], other.gaps()[0])] + other.gaps()[1:]
        with self.subTest(before=before):
            told = joined(one, other)
            self.check_same(told, gaps, one.weights() + other.weights())
            self.assertEqual(told.length(), total(one.length(), other.length()))
            self.assertEqual([one.gaps(), one.weights(), other.gaps(), other.weights()], before)
        return told

    def test_some(self):
        one, other = Cord([(1, 1), (1, 2)], [(2, 1)]), Cord([(1, 3), (4, 1), (5, 1)], [(6, 1), (7, 1)])
        self.check_same(joined(one, other), [(1, 1), (5, 6), (4, 1), (5, 1)], [(2, 1), (6, 1), (7, 1)])
        self.check_same(joined(other, one), [(1, 3), (4, 1), (6, 1), (1, 2)], [(6, 1), (7, 1), (2, 1)])

    def test_no_bead(self):
        bare = Cord([(1, 3)], [])
        self.check_same(joined(bare, bare), [(2, 3)], [])
        one = Cord([(1, 1), (1, 2)], [(2, 1)])
        self.check_same(joined(bare, one), [(4, 3), (1, 2)], [(2, 1)])
        self.check_same(joined(one, bare), [(1, 1), (5, 6)], [(2, 1)])

    def test_a_cord_with_itself(self):
        one = Cord([(1, 1), (1, 2)], [(2, 1)])
        self.check_same(joined(one, one), [(1, 1), (3, 2), (1, 2)], [(2, 1), (2, 1)])
        self.check_same(one, [(1, 1), (1, 2)], [(2, 1)])

    def test_each_count_of_beads(self):
        for beads in range(13):
            for others in range(13 - beads):
                self.check(some_cord(beads, 2, beads), some_cord(others, 2, 50 + others))
        for beads in (0, 5, 12):
            self.check(some_cord(beads, 30, beads), some_cord(12 - beads, 30, 50))

    def test_too_many_beads(self):
        for beads, others in ((12, 1), (1, 12), (6, 7), (7, 6), (12, 12)):
            self.check_refused(NoCord, joined, some_cord(beads, 2, 230), some_cord(others, 2, 231))
        self.check_refused(NoCord, joined, some_cord(12, 30, 232), some_cord(12, 30, 233))

    def test_the_table_is_the_product(self):
        pairs = [(some_cord(beads, 2, beads), some_cord(others, 2, 90 + others))
                 for beads in range(5) for others in range(5)]
        pairs += [(some_cord(6, 8, 234), some_cord(6, 8, 235)), (some_cord(6, 30, 236), some_cord(6, 30, 237)),
                  (some_cord(12, 2, 238), some_cord(0, 30, 239)), (some_cord(0, 30, 240), some_cord(12, 2, 241))]
        for one, other in pairs:
            with self.subTest(one=one.gaps(), other=other.gaps()):
                told = joined(one, other)
                first = [[near(one), held(one)], [free(one), loose(one)]]
                second = [[near(other), held(other)], [free(other), loose(other)]]
                product = [[poly_plus(poly_times(row[0], first[0][column]), poly_times(row[1], first[1][column]))
                            for column in (0, 1)] for row in second]
                self.assertEqual([[near(told), held(told)], [free(told), loose(told)]], product)


class TestCut(ChangeCase):
    def check(self, cord, bead):
        gaps, weights = cord.gaps(), cord.weights()
        with self.subTest(gaps=gaps, weights=weights, bead=bead):
            told = cut(cord, bead)
            self.assertIs(type(told), tuple)
            self.assertEqual(len(told), 2)
            self.check_same(told[0], gaps[:bead], weights[:bead - 1])
            self.check_same(told[1], gaps[bead:], weights[bead:])
            self.check_same(cord, gaps, weights)
        return told

    def test_one_bead(self):
        ahead, behind = cut(Cord([(3, 2), (1, 7)], [(5, 1)]), 1)
        self.check_same(ahead, [(3, 2)], [])
        self.check_same(behind, [(1, 7)], [])

    def test_three_beads(self):
        cord = Cord([(1, 1), (1, 2), (2, 1), (1, 3)], [(2, 1), (3, 1), (1, 4)])
        for bead, wanted in ((1, ([(1, 1)], [], [(1, 2), (2, 1), (1, 3)], [(3, 1), (1, 4)])),
                             (2, ([(1, 1), (1, 2)], [(2, 1)], [(2, 1), (1, 3)], [(1, 4)])),
                             (3, ([(1, 1), (1, 2), (2, 1)], [(2, 1), (3, 1)], [(1, 3)], []))):
            ahead, behind = cut(cord, bead)
            self.check_same(ahead, wanted[0], wanted[1])
            self.check_same(behind, wanted[2], wanted[3])

    def test_each_bead(self):
        for beads in range(1, 13):
            for figures in (1, 30):
                for bead in range(1, beads + 1):
                    self.check(some_cord(beads, figures, beads), bead)

    def test_no_such_bead(self):
        for beads in (0, 1, 2, 12):
            cord = some_cord(beads, 2, 250)
            for bead in (0, -1, -2, -beads, -beads - 1, beads + 1, beads + 2, 13, LONG, -LONG, OTHER_LONG):
                if 1 <= bead <= beads:
                    continue
                self.check_refused(NoBead, cut, cord, bead)

    def test_the_held_polynomial_out_of_the_pieces(self):
        for beads, figures in [(beads, 2) for beads in range(1, 8)] + [(12, 2), (12, 30)]:
            cord = some_cord(beads, figures, 251)
            for bead in range(1, beads + 1) if figures == 2 else (1, 7, 12):
                first, second = cut(cord, bead)
                weighing = [(0, 1)] + scaled(held(first), cord.weights()[bead - 1])
                wanted = poly_plus(poly_times(near(second), held(first)),
                                   poly_times(held(second), poly_minus(loose(first), weighing)))
                self.assertEqual(held(cord), wanted)

    def test_the_counts_of_the_pieces(self):
        chance = random.Random(252)
        seen = []
        for beads, figures in [(beads, 2) for beads in range(1, 9)] + [(12, 2), (12, 30)]:
            cord = some_cord(beads, figures, 253)
            for t in numbers_about(cord, chance) + fractions(chance, 2, 100):
                count = worths_below(cord, "held", t)
                for bead in range(1, beads + 1):
                    seen.append(count - sum(worths_below(piece, "held", t) for piece in cut(cord, bead)))
        self.assertEqual(set(seen), {0, 1})


class TestToldIsItsOwn(ChangeCase):
    def test_the_cords_do_not_share_lists(self):
        cord = Cord([(1, 1), (1, 2), (2, 1)], [(2, 1), (3, 1)])
        bare = Cord([(1, 3)], [])
        told = [heavier(cord, 1, (1, 1)), longer(cord, 0, (1, 1)), joined(cord, bare), joined(bare, cord)]
        told += list(cut(cord, 1)) + list(cut(cord, 2))
        before = [(one.gaps(), one.weights()) for one in told]
        for one in told + [cord, bare]:
            one.gaps().clear()
            one.weights().append((1, 1))
        self.assertEqual([(one.gaps(), one.weights()) for one in told], before)
        self.check_same(cord, [(1, 1), (1, 2), (2, 1)], [(2, 1), (3, 1)])
        self.check_same(bare, [(1, 3)], [])

    def test_told_the_same_again(self):
        cord = Cord([(1, 1), (1, 2), (2, 1)], [(2, 1), (3, 1)])
        heavier(cord, 1, (1, 1)).weights().clear()
        cut(cord, 2)[0].gaps().clear()
        self.check_same(heavier(cord, 1, (1, 1)), [(1, 1), (1, 2), (2, 1)], [(3, 1), (3, 1)])
        self.check_same(cut(cord, 2)[0], [(1, 1), (1, 2)], [(2, 1)])


class TestInterface(unittest.TestCase):
    def test_parameters(self):
        wanted = {"heavier": ["cord", "bead", "more"], "longer": ["cord", "gap", "more"], "joined": ["one", "other"],
                  "cut": ["cord", "bead"]}
        for name, parameters in wanted.items():
            with self.subTest(name):
                self.assertEqual(list(inspect.signature(getattr(changes, name)).parameters), parameters)


if __name__ == "__main__":
    unittest.main()
