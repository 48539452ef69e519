import copy
import inspect
import random
import unittest
from fractions import Fraction

from tautcord.cords import Cord
from tautcord.forces import forces

ENDS = ("held", "loose")


def pair(number):
    return (number.numerator, number.denominator)


def fractions(chance, count, figures):
    low, high = 10 ** (figures - 1), 10 ** figures
    return [pair(Fraction(chance.randrange(low, high), chance.randrange(low, high))) for place in range(count)]


def some_cord(beads, figures, seed):
    chance = random.Random(seed)
    return Cord(fractions(chance, beads + 1, figures), fractions(chance, beads, figures))


def forces_of(cord, end):
    """Bead by bead, numbered from 1 on, as the document tells it."""
    gaps = [Fraction(*gap) for gap in cord.gaps()]
    weights = [None] + [Fraction(*weight) for weight in cord.weights()]
    beads = len(weights) - 1
    table = [[[] for column in range(beads)] for row in range(beads)]
    for k in range(1, beads + 1):
        pull = 1 / gaps[k - 1]
        if k < beads or end == "held":
            pull += 1 / gaps[k]
        table[k - 1][k - 1] = [pair(pull), pair(-weights[k])]
        if k < beads:
            table[k - 1][k] = [pair(-1 / gaps[k])]
            table[k][k - 1] = [pair(-1 / gaps[k])]
    return table


class ForcesCase(unittest.TestCase):
    def check(self, told, answer):
        self.assertEqual(told, answer)
        self.assertIs(type(told), list)
        lists = [told]
        for row in told:
            self.assertIs(type(row), list)
            self.assertEqual(len(row), len(told))
            lists.append(row)
            for thing in row:
                self.assertIs(type(thing), list)
                lists.append(thing)
                for figure in thing:
                    self.assertIs(type(figure), tuple)
                    self.assertEqual([type(part) for part in figure], [int, int])
        self.assertEqual(len({id(one) for one in lists}), len(lists))


class TestForces(ForcesCase):
    def test_no_bead(self):
        for end in ENDS:
            self.check(forces(Cord([(3, 2)], []), end), [])

    def test_one_bead(self):
        cord = Cord([(3, 2), (1, 7)], [(5, 1)])
        self.check(forces(cord, "held"), [[[(23, 3), (-5, 1)]]])
        self.check(forces(cord, "loose"), [[[(2, 3), (-5, 1)]]])

    def test_two_beads(self):
        cord = Cord([(1, 1), (1, 2), (2, 1)], [(2, 1), (3, 1)])
        self.check(forces(cord, "held"), [[[(3, 1), (-2, 1)], [(-2, 1)]], [[(-2, 1)], [(5, 2), (-3, 1)]]])
        self.check(forces(cord, "loose"), [[[(3, 1), (-2, 1)], [(-2, 1)]], [[(-2, 1)], [(2, 1), (-3, 1)]]])

    def test_three_beads(self):
        cord = Cord([(1, 2), (1, 3), (1, 4), (1, 5)], [(1, 6), (7, 1), (8, 9)])
        told = [[[(5, 1), (-1, 6)], [(-3, 1)], []],
                [[(-3, 1)], [(7, 1), (-7, 1)], [(-4, 1)]],
                [[], [(-4, 1)], [(9, 1), (-8, 9)]]]
        self.check(forces(cord, "held"), told)
        told[2][2] = [(4, 1), (-8, 9)]
        self.check(forces(cord, "loose"), told)

    def test_each_count_of_beads(self):
        for beads in range(13):
            for figures in (1, 3, 30):
                cord = some_cord(beads, figures, beads)
                for end in ENDS:
                    with self.subTest(beads=beads, figures=figures, end=end):
                        self.check(forces(cord, end), forces_of(cord, end))

    def test_only_the_last_bead_feels_the_end(self):
        for beads in range(1, 13):
            cord = some_cord(beads, 3, beads)
            fixed, sliding = forces(cord, "held"), forces(cord, "loose")
            last = Fraction(*fixed[-1][-1][0]) - Fraction(*sliding[-1][-1][0])
            self.assertEqual(last, 1 / Fraction(*cord.gaps()[-1]))
            fixed[-1][-1] = sliding[-1][-1]
            self.assertEqual(fixed, sliding)


class TestOwnLists(ForcesCase):
    def test_one_thing_is_changed_and_all_others_stay(self):
        for beads in (1, 2, 5):
            cord = some_cord(beads, 2, beads)
            for end in ENDS:
                answer = forces_of(cord, end)
                for row in range(beads):
                    for column in range(beads):
                        with self.subTest(beads=beads, end=end, row=row, column=column):
                            told = forces(cord, end)
                            kept = forces(cord, end)
                            told[row][column].append((5, 1))
                            told[row][column][0] = (77, 1)
                            changed = copy.deepcopy(answer)
                            changed[row][column] = [(77, 1)] + answer[row][column][1:] + [(5, 1)]
                            if not answer[row][column]:
                                changed[row][column] = [(77, 1)]
                            self.assertEqual(told, changed)
                            self.check(kept, answer)
                            self.check(forces(cord, end), answer)

    def test_rows_and_table_are_the_askers_own(self):
        cord = some_cord(4, 2, 3)
        for end in ENDS:
            answer = forces_of(cord, end)
            told = forces(cord, end)
            kept = forces(cord, end)
            told[0].clear()
            self.assertEqual(told[1:], answer[1:])
            told.clear()
            self.check(kept, answer)
            self.check(forces(cord, end), answer)
        forces(Cord([(1, 1)], []), "held").append([[(1, 1)]])
        self.check(forces(Cord([(1, 1)], []), "held"), [])

    def test_the_cord_stays(self):
        gaps, weights = [(1, 1), (1, 2), (2, 1)], [(2, 1), (3, 1)]
        cord = Cord(gaps, weights)
        for end in ENDS:
            kept = forces(cord, end)
            forces(cord, end)[0][0].clear()
            self.assertEqual((cord.gaps(), cord.weights()), ([(1, 1), (1, 2), (2, 1)], [(2, 1), (3, 1)]))
            self.check(kept, forces_of(cord, end))
        gaps.clear()
        weights.clear()
        self.check(forces(cord, "held"), [[[(3, 1), (-2, 1)], [(-2, 1)]], [[(-2, 1)], [(5, 2), (-3, 1)]]])

    def test_its_parameters(self):
        self.assertEqual(list(inspect.signature(forces).parameters), ["cord", "end"])


if __name__ == "__main__":
    unittest.main()
