import inspect
import random
import unittest
from fractions import Fraction

from tautcord.cords import Cord
from tautcord.walks import walked

TS = [(0, 1), (1, 1), (-1, 1), (1, 2), (-5, 3), (7, 2), (10 ** 29 + 319, 10 ** 30 - 11)]


def pair(number):
    return (number.numerator, number.denominator)


def numbers(row):
    return [Fraction(*part) for part in row]


def walk_of(gaps, weights, t, height, lean):
    gaps, weights = numbers(gaps), numbers(weights)
    t, height, lean = Fraction(*t), Fraction(*height), Fraction(*lean)
    steps = []
    for k in range(len(gaps)):
        if k:
            lean -= t * weights[k - 1] * height
        height += gaps[k] * lean
        steps.append((pair(height), pair(lean)))
    return steps


def fractions(chance, count, figures):
    low, high = 10 ** (figures - 1), 10 ** figures
    return [pair(Fraction(chance.randrange(low, high), chance.randrange(low, high))) for place in range(count)]


class WalkCase(unittest.TestCase):
    def check(self, told, answer):
        self.assertEqual(told, answer)
        self.assertIs(type(told), list)
        for step in told:
            self.assertIs(type(step), tuple)
            self.assertEqual(len(step), 2)
            for part in step:
                self.assertIs(type(part), tuple)
                self.assertEqual([type(number) for number in part], [int, int])


class TestWalked(WalkCase):
    def setUp(self):
        self.gaps = [(1, 1), (1, 2), (2, 1)]
        self.weights = [(2, 1), (3, 1)]
        self.cord = Cord(self.gaps, self.weights)

    def test_step_by_step(self):
        # (1), then 1 - 1 * 2 * 1 = -1 and 1 - 1/2, then -1 - 1 * 3 * 1/2 and 1/2 - 2 * 5/2.
        self.check(walked(self.cord, (1, 1)), [((1, 1), (1, 1)), ((1, 2), (-1, 1)), ((-9, 2), (-5, 2))])

    def test_begun_with_another_height_and_lean(self):
        self.check(walked(self.cord, (1, 1), (1, 1), (0, 1)), [((1, 1), (0, 1)), ((0, 1), (-2, 1)), ((-4, 1), (-2, 1))])
        self.check(walked(self.cord, (-1, 2), (2, 3), (-1, 3)), [((1, 3), (-1, 3)), ((1, 3), (0, 1)), ((4, 3), (1, 2))])

    def test_where_none_is_handed_in(self):
        for t in TS:
            with self.subTest(t=t):
                whole = walk_of(self.gaps, self.weights, t, (0, 1), (1, 1))
                self.check(walked(self.cord, t), whole)
                self.check(walked(self.cord, t, None, None), whole)
                self.check(walked(self.cord, t, height=None), whole)
                self.check(walked(self.cord, t, lean=None), whole)
                self.check(walked(self.cord, t, (0, 1), (1, 1)), whole)

    def test_either_alone(self):
        for t in TS:
            for begun in ((0, 1), (1, 1), (-2, 3), (5, 1)):
                with self.subTest(t=t, begun=begun):
                    high = walk_of(self.gaps, self.weights, t, begun, (1, 1))
                    leaning = walk_of(self.gaps, self.weights, t, (0, 1), begun)
                    self.check(walked(self.cord, t, begun), high)
                    self.check(walked(self.cord, t, begun, None), high)
                    self.check(walked(self.cord, t, height=begun), high)
                    self.check(walked(self.cord, t, None, begun), leaning)
                    self.check(walked(self.cord, t, lean=begun), leaning)

    def test_both(self):
        for t in TS:
            for height in ((0, 1), (1, 1), (-2, 3)):
                for lean in ((0, 1), (1, 1), (4, 7)):
                    with self.subTest(t=t, height=height, lean=lean):
                        answer = walk_of(self.gaps, self.weights, t, height, lean)
                        self.check(walked(self.cord, t, height, lean), answer)
                        self.check(walked(cord=self.cord, t=t, lean=lean, height=height), answer)

    def test_both_nought(self):
        self.check(walked(self.cord, (3, 2), (0, 1), (0, 1)), [((0, 1), (0, 1))] * 3)

    def test_no_beads(self):
        cord = Cord([(3, 2)], [])
        for t in TS:
            self.check(walked(cord, t), [((3, 2), (1, 1))])
            self.check(walked(cord, t, (1, 1), (0, 1)), [((1, 1), (0, 1))])
            self.check(walked(cord, t, (1, 2), (-1, 3)), [((0, 1), (-1, 3))])

    def test_at_nought_the_lean_stays(self):
        self.check(walked(self.cord, (0, 1)), [((1, 1), (1, 1)), ((3, 2), (1, 1)), ((7, 2), (1, 1))])

    def test_below_nought(self):
        self.check(walked(self.cord, (-1, 1)), [((1, 1), (1, 1)), ((5, 2), (3, 1)), ((47, 2), (21, 2))])

    def test_one_step_for_each_gap(self):
        chance = random.Random(3)
        for beads in range(13):
            gaps, weights = fractions(chance, beads + 1, 2), fractions(chance, beads, 2)
            for t in TS:
                with self.subTest(beads=beads, t=t):
                    told = walked(Cord(gaps, weights), t)
                    self.assertEqual(len(told), beads + 1)
                    self.check(told, walk_of(gaps, weights, t, (0, 1), (1, 1)))

    def test_at_the_bounds(self):
        chance = random.Random(4)
        gaps, weights = fractions(chance, 13, 30), fractions(chance, 12, 30)
        cord = Cord(gaps, weights)
        t = fractions(chance, 1, 100)[0]
        begun = fractions(chance, 2, 30)
        for number in (t, (-t[0], t[1]), (0, 1), (10 ** 100 - 1, 1), (1, 10 ** 100 - 1)):
            with self.subTest(number=number):
                self.check(walked(cord, number), walk_of(gaps, weights, number, (0, 1), (1, 1)))
                self.check(walked(cord, number, begun[0], begun[1]), walk_of(gaps, weights, number, begun[0], begun[1]))

    def test_its_parameters(self):
        parameters = inspect.signature(walked).parameters
        self.assertEqual(list(parameters), ["cord", "t", "height", "lean"])
        self.assertIsNone(parameters["height"].default)
        self.assertIsNone(parameters["lean"].default)


class TestOwnLists(WalkCase):
    def test_told_the_same_again(self):
        gaps, weights = [(1, 1), (1, 2), (2, 1)], [(2, 1), (3, 1)]
        cord = Cord(gaps, weights)
        answer = [((1, 1), (1, 1)), ((1, 2), (-1, 1)), ((-9, 2), (-5, 2))]
        told = walked(cord, (1, 1))
        kept = walked(cord, (1, 1))
        self.assertIsNot(told, kept)
        told[0] = None
        told.append(((7, 1), (7, 1)))
        self.check(kept, answer)
        self.check(walked(cord, (1, 1)), answer)
        told.clear()
        walked(cord, (5, 3), (1, 1), (0, 1))
        self.check(walked(cord, (1, 1)), answer)
        gaps.clear()
        weights.clear()
        self.check(kept, answer)
        self.check(walked(cord, (1, 1)), answer)

    def test_the_cord_stays(self):
        cord = Cord([(1, 1), (1, 2), (2, 1)], [(2, 1), (3, 1)])
        walked(cord, (1, 1))
        walked(cord, (-1, 1), (1, 1), (0, 1))
        self.assertEqual(cord.gaps(), [(1, 1), (1, 2), (2, 1)])
        self.assertEqual(cord.weights(), [(2, 1), (3, 1)])


if __name__ == "__main__":
    unittest.main()
