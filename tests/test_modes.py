import inspect
import random
import unittest
from fractions import Fraction

from tautcord import modes
from tautcord.cords import Cord
from tautcord.counts import turns, worths_below
from tautcord.errors import CordError, NoWorth
from tautcord.modes import heights, mode, shares_of, weighed
from tautcord.polys import worth_at
from tautcord.tones import squares

LONG = 10 ** 29 + 319
OTHER_LONG = 10 ** 30 - 11

ENDS = ("held", "loose")
NOUGHT = (0, 1)


def pair(number):
    return (number.numerator, number.denominator)


def pairs(row):
    return [pair(Fraction(number)) for number in row]


def fractions(chance, count, figures):
    low, high = 10 ** (figures - 1), 10 ** figures
    return [pair(Fraction(chance.randrange(low, high), chance.randrange(low, high))) for place in range(count)]


def some_cord(beads, figures, seed):
    chance = random.Random(seed)
    return Cord(fractions(chance, beads + 1, figures), fractions(chance, beads, figures))


def known_heights(cord, t):
    gaps = [Fraction(*gap) for gap in cord.gaps()]
    height, lean, row = Fraction(0), Fraction(1), []
    for gap, weight in zip(gaps, cord.weights()):
        height += gap * lean
        row.append(height)
        lean -= t * Fraction(*weight) * height
    return pairs(row)


def known_weight(cord, one, other):
    rows = zip(cord.weights(), one, other)
    return pair(sum((Fraction(*a) * Fraction(*b) * Fraction(*c) for a, b, c in rows), Fraction(0)))


def product_of_worths(worths, times):
    row = [Fraction(times)]
    for worth in worths:
        row = [a - b / worth for a, b in zip(row + [Fraction(0)], [Fraction(0)] + row)]
    return row


def cord_of_worths(helds, looses, length):
    """By the ladder of divisions, from the far peg to the near one."""
    upper, lower = product_of_worths(helds, length), product_of_worths(looses, 1)
    gaps, weights = [], []
    while True:
        gaps.insert(0, upper[-1] / lower[-1])
        upper = [a - gaps[0] * b for a, b in zip(upper, lower)][:-1]
        if not upper:
            return Cord(pairs(gaps), pairs(weights))
        weights.insert(0, -lower[-1] / upper[-1])
        lower = [a + weights[0] * b for a, b in zip(lower, [Fraction(0)] + upper)][:-1]


def some_worths(beads, seed, figures=2):
    """Twice as many unlike fractions as beads, rising: loose and held in turns."""
    chance = random.Random(seed)
    worths = set()
    while len(worths) < 2 * beads:
        worths.add(Fraction(chance.randrange(1, 10 ** figures), chance.randrange(1, 10 ** figures)))
    return sorted(worths)


def known_cords():
    """Cords and their worths with an end."""
    for beads in range(13):
        worths = some_worths(beads, beads)
        cord = cord_of_worths(worths[1::2], worths[::2], Fraction(5, 3))
        yield cord, "held", worths[1::2]
        yield cord, "loose", worths[::2]
    yield Cord([(1, 1)] * 3, [(1, 1)] * 2), "held", [Fraction(1), Fraction(3)]
    yield Cord([(3, 2), (1, 7)], [(5, 1)]), "held", [Fraction(23, 15)]
    yield Cord([(3, 2), (1, 7)], [(5, 1)]), "loose", [Fraction(2, 15)]


class ModeCase(unittest.TestCase):
    def check_row(self, told, answer):
        self.assertEqual(told, answer)
        self.assertIs(type(told), list)
        self.assertEqual([type(one) for one in told], [tuple] * len(answer))
        self.assertEqual({type(number) for one in told for number in one} - {int}, set())

    def check_refused(self, asked, *told):
        with self.subTest(asked=asked.__name__, told=told[1:], gaps=told[0].gaps(), weights=told[0].weights()):
            with self.assertRaises(CordError) as caught:
                asked(*told)
            self.assertIs(type(caught.exception), NoWorth)


class TestHeights(ModeCase):
    def check(self, cord, t):
        with self.subTest(gaps=cord.gaps(), weights=cord.weights(), t=t):
            self.check_row(heights(cord, t), known_heights(cord, Fraction(*t)))

    def check_turns(self, cord, t):
        """The turns of the heights, by the piece ahead of the last bead."""
        with self.subTest(gaps=cord.gaps(), weights=cord.weights(), t=t):
            below = 0
            if cord.beads() > 1:
                below = worths_below(Cord(cord.gaps()[:-1], cord.weights()[:-1]), "held", t)
            self.assertEqual(turns(heights(cord, t)), below)

    def test_no_bead(self):
        for t in (NOUGHT, (1, 1), (-5, 3), (10 ** 100 - 1, 1)):
            self.check_row(heights(Cord([(3, 2)], []), t), [])

    def test_one_bead(self):
        for t in (NOUGHT, (1, 1), (-5, 3), (10 ** 100 - 1, 1)):
            self.check_row(heights(Cord([(3, 2), (1, 7)], [(5, 1)]), t), [(3, 2)])

    def test_more_beads(self):
        cord = Cord([(1, 1), (1, 2), (2, 1)], [(2, 1), (3, 1)])
        self.check_row(heights(cord, (1, 1)), [(1, 1), (1, 2)])
        self.check_row(heights(cord, NOUGHT), [(1, 1), (3, 2)])
        self.check_row(heights(Cord([(1, 1)] * 4, [(1, 1)] * 3), (2, 1)), [(1, 1), NOUGHT, (-1, 1)])

    def test_by_the_walk(self):
        chance = random.Random(100)
        for beads in range(13):
            cord = some_cord(beads, 2, beads)
            for t in [NOUGHT, (1, 1), (-1, 1), (30, 1)] + fractions(chance, 4, 3):
                self.check(cord, t)
                self.check_turns(cord, t)

    def test_turns_where_heights_are_often_nought(self):
        for beads in range(7):
            cord = Cord([(1, 1)] * (beads + 1), [(1, 1)] * beads)
            for t in range(-1, 11):
                self.check_turns(cord, pair(Fraction(t, 2)))

    def test_at_the_bounds(self):
        chance = random.Random(101)
        cord = some_cord(12, 30, 102)
        for t in fractions(chance, 3, 100) + [(10 ** 100 - 1, 1), (-1, 10 ** 100 - 1)]:
            self.check(cord, t)
            self.check_turns(cord, t)


class TestMode(ModeCase):
    def test_one_bead(self):
        cord = Cord([(3, 2), (1, 7)], [(5, 1)])
        self.check_row(mode(cord, "held", (23, 15)), [(3, 2)])
        self.check_row(mode(cord, "loose", (2, 15)), [(3, 2)])

    def test_two_beads(self):
        cord = Cord([(1, 1)] * 3, [(1, 1)] * 2)
        self.check_row(mode(cord, "held", (1, 1)), [(1, 1), (1, 1)])
        self.check_row(mode(cord, "held", (3, 1)), [(1, 1), (-1, 1)])

    def test_three_beads_one_at_nought(self):
        cord = Cord([(1, 1)] * 4, [(1, 1)] * 3)
        self.check_row(mode(cord, "held", (2, 1)), [(1, 1), NOUGHT, (-1, 1)])
        self.assertEqual(turns(mode(cord, "held", (2, 1))), 1)

    def test_heights_and_turns_of_each_mode(self):
        for cord, end, worths in known_cords():
            for k, worth in enumerate(worths, start=1):
                with self.subTest(gaps=cord.gaps(), weights=cord.weights(), end=end, worth=worth):
                    told = mode(cord, end, pair(worth))
                    self.check_row(told, known_heights(cord, worth))
                    self.assertEqual(turns(told), k - 1)

    def test_numbers_that_are_no_worths(self):
        for cord, end, worths in known_cords():
            for t in (NOUGHT, (-1, 1), (10 ** 100 - 1, 1), (1, 10 ** 100 - 1), (-LONG, OTHER_LONG)):
                self.check_refused(mode, cord, end, t)
            for worth in worths:
                self.check_refused(mode, cord, end, pair(worth + Fraction(1, 10 ** 60)))
                self.check_refused(mode, cord, end, pair(worth - Fraction(1, 10 ** 60)))
                # No worth with the one end is one with the other.
                self.check_refused(mode, cord, "loose" if end == "held" else "held", pair(worth))

    def test_no_bead(self):
        for end in ENDS:
            for t in (NOUGHT, (1, 1), (2, 3), (-1, 1), (10 ** 100 - 1, 1)):
                self.check_refused(mode, Cord([(3, 2)], []), end, t)

    def test_a_height_of_nought_is_no_worth(self):
        # At 2 the second bead is at 0, but neither the far peg nor the last lean.
        for end in ENDS:
            self.check_refused(mode, Cord([(1, 1)] * 3, [(1, 1)] * 2), end, (2, 1))

    def test_worths_that_are_no_fractions(self):
        # The worths held are 2 less, and 2 and, the root of 2, and 2 itself.
        cord = Cord([(1, 1)] * 4, [(1, 1)] * 3)
        for t in ((3, 1), (1, 1)):
            self.check_refused(mode, cord, "held", t)
        low, high = 1, 2
        for halving in range(300):
            middle = Fraction(low + high) / 2
            low, high = (middle, high) if middle * middle < 2 else (low, middle)
        for near in (2 - low, 2 - high, 2 + low, 2 + high):
            self.check_refused(mode, cord, "held", pair(near))

    def test_long_numbers(self):
        cord = Cord([(LONG, OTHER_LONG), (OTHER_LONG, LONG)], [(LONG, 7)])
        pull = Fraction(OTHER_LONG, LONG)
        self.check_row(mode(cord, "loose", pair(pull * 7 / LONG)), [(LONG, OTHER_LONG)])
        self.check_row(mode(cord, "held", pair((pull + 1 / pull) * 7 / LONG)), [(LONG, OTHER_LONG)])
        chance = random.Random(103)
        cord = some_cord(12, 30, 104)
        for t in fractions(chance, 3, 100):
            for end in ENDS:
                self.check_refused(mode, cord, end, t)

    def test_worths_of_hundred_figures(self):
        chance = random.Random(105)
        worths = sorted(Fraction(chance.randrange(10 ** 99, 10 ** 100), chance.randrange(10 ** 99, 10 ** 100)) for k in range(4))
        cord = cord_of_worths(worths[1::2], worths[::2], 1)
        for end, row in (("held", worths[1::2]), ("loose", worths[::2])):
            for k, worth in enumerate(row):
                told = mode(cord, end, pair(worth))
                self.check_row(told, known_heights(cord, worth))
                self.assertEqual(turns(told), k)


class TestWeighed(ModeCase):
    def check(self, cord, one, other):
        before = (list(one), list(other))
        with self.subTest(gaps=cord.gaps(), weights=cord.weights(), one=one, other=other):
            told = weighed(cord, one, other)
            self.assertEqual(told, known_weight(cord, one, other))
            self.assertEqual(weighed(cord, other, one), told)
            self.assertEqual([type(told)] + [type(number) for number in told], [tuple, int, int])
            self.assertEqual((one, other), before)

    def test_no_bead(self):
        self.assertEqual(weighed(Cord([(3, 2)], []), [], []), NOUGHT)

    def test_some(self):
        cord = Cord([(1, 1), (1, 2), (2, 1)], [(2, 1), (3, 1)])
        self.assertEqual(weighed(cord, [(1, 1), (1, 2)], [(1, 1), (-2, 3)]), (1, 1))
        self.assertEqual(weighed(cord, [(1, 1), (1, 2)], [(1, 1), (1, 2)]), (11, 4))
        self.assertEqual(weighed(cord, [NOUGHT, NOUGHT], [(1, 1), (1, 2)]), NOUGHT)
        self.assertEqual(weighed(Cord([(3, 2), (1, 7)], [(5, 1)]), [(-1, 2)], [(2, 3)]), (-5, 3))

    def test_by_fractions(self):
        chance = random.Random(106)
        for beads in range(13):
            for figures in (1, 30):
                cord = some_cord(beads, figures, beads)
                one, other = fractions(chance, beads, figures), fractions(chance, beads, figures)
                self.check(cord, one, other)
                self.check(cord, [(-top, bottom) for top, bottom in one], other)
                self.check(cord, one, one)

    def test_modes_against_one_another(self):
        for cord, end, worths in known_cords():
            shapes = [mode(cord, end, pair(worth)) for worth in worths]
            for k, one in enumerate(shapes):
                for other in shapes[:k]:
                    self.assertEqual(weighed(cord, one, other), NOUGHT)
                    self.assertEqual(weighed(cord, other, one), NOUGHT)

    def test_a_mode_against_itself(self):
        for cord, end, worths in known_cords():
            whole = squares(cord)
            for worth in worths:
                shape = mode(cord, end, pair(worth))
                told = weighed(cord, shape, shape)
                self.assertEqual(told, worth_at(whole, pair(worth)))
                self.assertGreater(told[0], 0)

    def test_modes_of_unlike_ends_do_not_weigh_nought(self):
        cord = Cord([(3, 2), (1, 7)], [(5, 1)])
        self.assertEqual(weighed(cord, mode(cord, "held", (23, 15)), mode(cord, "loose", (2, 15))), (45, 4))


class TestSharesOf(ModeCase):
    def check(self, cord, end, worths, row):
        worths = pairs(worths)
        before = (list(worths), list(row))
        with self.subTest(gaps=cord.gaps(), weights=cord.weights(), end=end, row=row):
            parts = shares_of(cord, end, worths, row)
            self.assertEqual((worths, row), before)
            self.assertEqual(len(parts), cord.beads())
            self.check_row(parts, pairs([Fraction(*part) for part in parts]))
            shapes = [known_heights(cord, Fraction(*worth)) for worth in worths]
            for bead in range(cord.beads()):
                whole = sum(Fraction(*part) * Fraction(*shape[bead]) for part, shape in zip(parts, shapes))
                self.assertEqual(pair(whole), row[bead])
            weight = sum((Fraction(*part) ** 2 * Fraction(*known_weight(cord, shape, shape))
                          for part, shape in zip(parts, shapes)), Fraction(0))
            self.assertEqual(known_weight(cord, row, row), pair(weight))
            self.assertEqual(weighed(cord, row, row), pair(weight))

    def test_no_bead(self):
        for end in ENDS:
            told = shares_of(Cord([(3, 2)], []), end, [], [])
            self.check_row(told, [])
            told.append((1, 1))
            self.assertEqual(shares_of(Cord([(3, 2)], []), end, [], []), [])

    def test_one_bead(self):
        cord = Cord([(3, 2), (1, 7)], [(5, 1)])
        self.assertEqual(shares_of(cord, "held", [(23, 15)], [(1, 1)]), [(2, 3)])
        self.assertEqual(shares_of(cord, "loose", [(2, 15)], [(-3, 1)]), [(-2, 1)])

    def test_two_beads(self):
        cord = Cord([(1, 1)] * 3, [(1, 1)] * 2)
        worths = [(1, 1), (3, 1)]
        self.assertEqual(shares_of(cord, "held", worths, [(1, 1), NOUGHT]), [(1, 2), (1, 2)])
        self.assertEqual(shares_of(cord, "held", worths, [(1, 1), (1, 1)]), [(1, 1), NOUGHT])
        self.assertEqual(shares_of(cord, "held", worths, [(5, 1), (1, 2)]), [(11, 4), (9, 4)])
        self.assertEqual(shares_of(cord, "held", worths, [NOUGHT, NOUGHT]), [NOUGHT, NOUGHT])

    def test_each_row(self):
        chance = random.Random(107)
        for cord, end, worths in known_cords():
            self.check(cord, end, worths, [(0, 1)] * cord.beads())
            for figures in (1, 30):
                row = [(chance.choice((-1, 1)) * top, bottom) for top, bottom in fractions(chance, cord.beads(), figures)]
                self.check(cord, end, worths, row)

    def test_a_mode_itself(self):
        for cord, end, worths in known_cords():
            for k, worth in list(enumerate(worths))[::4]:
                parts = [NOUGHT] * cord.beads()
                parts[k] = (1, 1)
                shape = mode(cord, end, pair(worth))
                self.assertEqual(shares_of(cord, end, pairs(worths), shape), parts)

    def test_long_worths(self):
        chance = random.Random(108)
        for beads, figures in ((2, 100), (4, 30)):
            worths = some_worths(beads, beads, figures)
            cord = cord_of_worths(worths[1::2], worths[::2], Fraction(LONG, OTHER_LONG))
            self.check(cord, "held", worths[1::2], fractions(chance, beads, 30))
            self.check(cord, "loose", worths[::2], fractions(chance, beads, 30))

    def test_a_list_that_is_not_that_of_all_worths(self):
        for cord, end, worths in known_cords():
            row = [(1, 1)] * cord.beads()
            lists = [worths[:k] + worths[k + 1:] for k in range(len(worths))]
            lists += [worths + [Fraction(10 ** 6)], [Fraction(1, 10 ** 6)] + worths, [Fraction(0)] + worths, worths + worths]
            lists += [worths[:k] + [worth] + worths[k:] for k, worth in enumerate(worths)]
            lists += [worths[:k] + [worth + Fraction(1, 10 ** 30)] + worths[k + 1:] for k, worth in enumerate(worths)]
            lists += [worths[:k] + [worths[k + 1], worths[k]] + worths[k + 2:] for k in range(len(worths) - 1)]
            lists += [worths[:k] + [worths[k + 1]] + worths[k + 1:] for k in range(len(worths) - 1)]
            for wrong in lists:
                if wrong != worths:
                    self.check_refused(shares_of, cord, end, pairs(wrong), row)
            for wrong in ([Fraction(-1)] + worths[1:], [Fraction(0)] + worths[1:]):
                if worths:
                    self.check_refused(shares_of, cord, end, pairs(wrong), row)

    def test_the_worths_of_the_other_end(self):
        for cord, end, worths in known_cords():
            if worths:
                self.check_refused(shares_of, cord, "loose" if end == "held" else "held", pairs(worths), [(1, 1)] * len(worths))

    def test_no_bead_and_a_worth(self):
        for end in ENDS:
            for t in (NOUGHT, (1, 1), (-1, 1)):
                self.check_refused(shares_of, Cord([(3, 2)], []), end, [t], [])

    def test_worths_that_are_no_fractions(self):
        cord = Cord([(1, 1)] * 4, [(1, 1)] * 3)
        for worths in ([], [2], [1, 2, 3], [Fraction(58, 99), 2, Fraction(338, 99)]):
            self.check_refused(shares_of, cord, "held", pairs(worths), [(1, 1)] * 3)


class TestToldIsTheAskersOwn(ModeCase):
    def test_rows(self):
        cord = Cord([(1, 1)] * 3, [(1, 1)] * 2)
        worths, row = [(1, 1), (3, 1)], [(5, 1), (1, 2)]
        asked = (lambda: heights(cord, (1, 1)), lambda: mode(cord, "held", (3, 1)),
                 lambda: shares_of(cord, "held", worths, row))
        for ask in asked:
            told, kept = ask(), ask()
            wanted = list(kept)
            told[0] = (7, 9)
            told.append((1, 1))
            self.assertEqual(kept, wanted)
            self.assertEqual(ask(), wanted)
        self.assertEqual((worths, row), ([(1, 1), (3, 1)], [(5, 1), (1, 2)]))
        self.assertEqual((cord.gaps(), cord.weights()), ([(1, 1)] * 3, [(1, 1)] * 2))

    def test_what_is_handed_in_later(self):
        cord = Cord([(1, 1)] * 3, [(1, 1)] * 2)
        worths, row = [(1, 1), (3, 1)], [(5, 1), (1, 2)]
        told = shares_of(cord, "held", worths, row)
        worths.clear()
        row[0] = (0, 1)
        self.assertEqual(told, [(11, 4), (9, 4)])

    def test_no_bead(self):
        cord = Cord([(3, 2)], [])
        heights(cord, (1, 1)).append((1, 1))
        self.assertEqual(heights(cord, (1, 1)), [])


class TestInterface(unittest.TestCase):
    def test_parameters(self):
        wanted = {"heights": ["cord", "t"], "mode": ["cord", "end", "t"], "weighed": ["cord", "one", "other"],
                  "shares_of": ["cord", "end", "worths", "row"]}
        for name, parameters in wanted.items():
            with self.subTest(name):
                self.assertEqual(list(inspect.signature(getattr(modes, name)).parameters), parameters)


if __name__ == "__main__":
    unittest.main()
