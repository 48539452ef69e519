import copy
import inspect
import random
import unittest
from fractions import Fraction

from tautcord.bands import band
from tautcord.cords import Cord
from tautcord.forces import forces
from tautcord.polys import scaled
from tautcord.tones import held, loose

ONE = [(1, 1)]


def pair(number):
    return (number.numerator, number.denominator)


def fractions(chance, count, figures):
    low, high = 10 ** (figures - 1), 10 ** figures
    return [pair(Fraction(chance.randrange(low, high), chance.randrange(low, high))) for place in range(count)]


def some_cord(beads, figures, seed):
    chance = random.Random(seed)
    return Cord(fractions(chance, beads + 1, figures), fractions(chance, beads, figures))


def numbers(one):
    return [Fraction(*figure) for figure in one]


def determinant_of(table):
    """By the first row and what is left when it and a column are taken away, for any table at all."""
    if not table:
        return [Fraction(1)]
    whole = []
    for column, thing in enumerate(table[0]):
        if thing:
            left = determinant_of([row[:column] + row[column + 1:] for row in table[1:]])
            whole += [Fraction(0)] * (len(thing) + len(left) - len(whole))
            for power, figure in enumerate(numbers(thing)):
                for further, factor in enumerate(left):
                    whole[power + further] += (-1) ** column * figure * factor
    return whole


def poly_of(row):
    row = list(row)
    while row and row[-1] == 0:
        row.pop()
    return [pair(figure) for figure in row]


def worth_of(one, number):
    worth = Fraction(0)
    for figure in reversed(numbers(one)):
        worth = worth * number + figure
    return worth


def number_of(table):
    """The determinant of a table of numbers, row by row made less by the rows ahead."""
    table = [list(row) for row in table]
    whole = Fraction(1)
    for place in range(len(table)):
        found = [row for row in range(place, len(table)) if table[row][place]]
        if not found:
            return Fraction(0)
        if found[0] != place:
            table[place], table[found[0]] = table[found[0]], table[place]
            whole = -whole
        whole *= table[place][place]
        for row in range(place + 1, len(table)):
            factor = table[row][place] / table[place][place]
            if factor:
                table[row] = [a - factor * b for a, b in zip(table[row], table[place])]
    return whole


def some_table(rows, thing):
    """All 0 but in the middle and right beside it."""
    return [[thing(row, column) if abs(row - column) <= 1 else [] for column in range(rows)] for row in range(rows)]


def some_thing(chance, most):
    """A polynomial with noughts among its figures, now and then the polynomial 0."""
    row = [Fraction(chance.choice((-3, -1, 0, 0, 1, 2, 5)), chance.choice((1, 1, 2, 3, 7)))
           for place in range(chance.randrange(most + 1))]
    return poly_of(row)


class BandCase(unittest.TestCase):
    def check(self, table, answer=None):
        before = copy.deepcopy(table)
        told = band(table)
        self.assertEqual(table, before, "what is handed in stays")
        self.assertEqual(told, poly_of(determinant_of(table)) if answer is None else answer)
        self.check_form(told)

    def check_form(self, told):
        self.assertIs(type(told), list)
        for figure in told:
            self.assertIs(type(figure), tuple)
            self.assertEqual([type(part) for part in figure], [int, int])
            self.assertEqual(figure, pair(Fraction(*figure)))
        if told:
            self.assertNotEqual(told[-1], (0, 1))

    def check_at(self, table, ts):
        before = copy.deepcopy(table)
        told = band(table)
        self.assertEqual(table, before)
        self.check_form(told)
        for t in ts:
            self.assertEqual(worth_of(told, t), number_of([[worth_of(thing, t) for thing in row] for row in table]))


class TestBand(BandCase):
    def test_no_rows(self):
        self.check([], [(1, 1)])

    def test_one_row(self):
        for thing in ([], [(1, 1)], [(-3, 4)], [(0, 1), (2, 3)], [(1, 2), (0, 1), (-5, 7)]):
            self.check([[list(thing)]], thing)

    def test_two_rows(self):
        self.check([[[(1, 1)], [(2, 1)]], [[(3, 1)], [(4, 1)]]], [(-2, 1)])
        self.check([[[(3, 1), (-2, 1)], [(-2, 1)]], [[(-2, 1)], [(5, 2), (-3, 1)]]], [(7, 2), (-14, 1), (6, 1)])
        self.check([[[(1, 2)], [(2, 3)]], [[(3, 5)], [(4, 7)]]], [(-4, 35)])

    def test_three_rows(self):
        # 1 times (5 times 9 less 6 times 8), less 2 times 4 times 9.
        self.check([[[(1, 1)], [(2, 1)], []], [[(4, 1)], [(5, 1)], [(6, 1)]], [[], [(8, 1)], [(9, 1)]]], [(-75, 1)])

    def test_either_side_unlike_the_other(self):
        right = [[[(0, 1), (1, 1)], [(5, 1)], []], [[(0, 1), (0, 1), (1, 2)], [(1, 1)], [(1, 3), (1, 1)]],
                 [[], [(-2, 1)], [(0, 1), (7, 1)]]]
        self.check(right)
        # 7 t t less 35/2 t t t, and t times (2/3 and 2 t).
        self.check(right, [(0, 1), (2, 3), (9, 1), (-35, 2)])
        self.check([[[(1, 1)], [(5, 1)]], [[(7, 1), (1, 1)], [(1, 1)]]], [(-34, 1), (-5, 1)])
        self.check([[[(1, 1)], [(7, 1), (1, 1)]], [[(5, 1)], [(1, 1)]]], [(-34, 1), (-5, 1)])

    def test_noughts_in_the_middle(self):
        self.check([[[], [(2, 1)]], [[(3, 1)], []]], [(-6, 1)])
        self.check([[[], [(2, 1)]], [[(3, 1)], [(1, 1), (4, 1)]]], [(-6, 1)])
        self.check([[[(1, 1), (4, 1)], [(2, 1)]], [[(3, 1)], []]], [(-6, 1)])
        self.check([[[(1, 1)], [(2, 1)], []], [[(4, 1)], [], [(6, 1)]], [[], [(8, 1)], [(9, 1)]]], [(-120, 1)])
        for rows in range(1, 8):
            table = some_table(rows, lambda row, column: [] if row == column else [(row + 2, column + 1), (1, 1)])
            with self.subTest(rows=rows):
                self.check(table)
                self.assertEqual(band(table) == [], rows % 2 == 1)

    def test_noughts_beside_the_middle(self):
        for left in ([], [(3, 1), (1, 5)]):
            for right in ([], [(-2, 7)]):
                for rows in range(1, 6):
                    things = {-1: left, 0: [(2, 1), (-1, 3)], 1: right}
                    table = some_table(rows, lambda row, column: list(things[column - row]))
                    with self.subTest(left=left, right=right, rows=rows):
                        self.check(table)

    def test_a_determinant_that_is_nought(self):
        self.check([[[]]], [])
        self.check([[[(1, 1)], [(2, 1)]], [[(2, 1)], [(4, 1)]]], [])
        self.check([[[(0, 1), (1, 1)], [(1, 2), (1, 1)]], [[(0, 1), (0, 1), (2, 1)], [(0, 1), (1, 1), (2, 1)]]], [])
        self.check([[[], []], [[], []]], [])
        self.check([[[(1, 1)], [(2, 1)], []], [[], [], []], [[], [(8, 1)], [(9, 1)]]], [])
        self.check([[[(1, 1)], [], []], [[(3, 1)], [], [(1, 1)]], [[], [], [(9, 1)]]], [])

    def test_last_figures_that_come_to_nought(self):
        self.check([[[(1, 1), (1, 1)], [(0, 1), (1, 1)]], [[(0, 1), (1, 1)], [(2, 1), (1, 1)]]], [(2, 1), (3, 1)])
        self.check([[[(0, 1), (1, 1)], [(1, 1), (1, 1)]], [[(-1, 1), (1, 1)], [(0, 1), (1, 1)]]], [(1, 1)])

    def test_tables_of_all_sorts(self):
        chance = random.Random(11)
        for rows in range(1, 8):
            for turn in range(40):
                table = some_table(rows, lambda row, column: some_thing(chance, 4))
                with self.subTest(table=table):
                    self.check(table)

    def test_one_list_many_times(self):
        thing, nought = [(1, 2), (1, 1)], []
        row = [thing, thing]
        self.check([row, row], [])
        table = [[thing if abs(a - b) <= 1 else nought for a in range(5)] for b in range(5)]
        self.check(table)
        self.assertEqual((thing, nought), ([(1, 2), (1, 1)], []))


class TestOfTheForces(BandCase):
    def test_times_the_gaps_it_comes_to_held_and_loose(self):
        for beads in range(13):
            for figures in (1, 3, 30):
                cord = some_cord(beads, figures, beads)
                with self.subTest(beads=beads, figures=figures):
                    fixed, sliding = band(forces(cord, "held")), band(forces(cord, "loose"))
                    self.check_form(fixed)
                    self.check_form(sliding)
                    for gap in cord.gaps():
                        fixed = scaled(fixed, gap)
                    for gap in cord.gaps()[:-1]:
                        sliding = scaled(sliding, gap)
                    self.assertEqual(fixed, held(cord))
                    self.assertEqual(sliding, loose(cord))


class TestBounds(BandCase):
    def test_twelve_rows(self):
        chance = random.Random(12)
        self.check(some_table(12, lambda row, column: fractions(chance, 2, 2)))
        self.check(some_table(12, lambda row, column: some_thing(chance, 3)))

    def test_one_row_of_thirty_long_figures(self):
        thing = fractions(random.Random(13), 30, 400)
        self.check([[list(thing)]], thing)

    def test_a_long_one_among_short_ones(self):
        chance = random.Random(14)
        thing = fractions(chance, 30, 400)
        table = some_table(12, lambda row, column: ONE if row == column else [])
        table[4][4] = list(thing)
        table[7][8] = fractions(chance, 30, 400)
        self.check(table, thing)

    def test_two_rows_of_long_figures(self):
        chance = random.Random(15)
        self.check(some_table(2, lambda row, column: fractions(chance, 2, 400)))

    def test_twelve_rows_of_thirty_figures(self):
        chance = random.Random(16)
        bottom = 3 * 10 ** 99 + 7
        table = some_table(12, lambda row, column: [
            pair(Fraction(chance.randrange(-10 ** 100, 10 ** 100), bottom)) for place in range(30)])
        self.check_at(table, [Fraction(0), Fraction(1), Fraction(-2, 3)])

    def test_four_rows_of_thirty_long_figures(self):
        chance = random.Random(17)
        table = some_table(4, lambda row, column: [(chance.randrange(-10 ** 400, 10 ** 400), 1) for place in range(30)])
        self.check_at(table, [Fraction(0), Fraction(1), Fraction(-2, 3)])


class TestOwnLists(BandCase):
    def test_told_is_the_askers_own(self):
        tables = [[], [[[(1, 2), (3, 1)]]], [[[(1, 1)], [(2, 1)]], [[(3, 1)], [(4, 1)]]],
                  [[ONE, [], []], [[], [(1, 1), (5, 1)], []], [[], [], ONE]], [[[(1, 2)], []], [[], ONE]]]
        for table in tables:
            table = copy.deepcopy(table)
            before = copy.deepcopy(table)
            with self.subTest(table=table):
                told = band(table)
                kept = band(table)
                answer = list(told)
                self.assertIsNot(told, kept)
                for row in table:
                    for thing in row:
                        self.assertIsNot(told, thing)
                told.append((5, 1))
                told[0] = (77, 1)
                self.assertEqual(table, before)
                self.assertEqual(kept, answer)
                self.assertEqual(band(table), answer)
                for row in table:
                    for thing in row:
                        thing.insert(0, (9, 1))
                    row.reverse()
                table.append([])
                self.assertEqual(kept, answer)
                self.assertEqual(band(before), answer)

    def test_its_parameters(self):
        self.assertEqual(list(inspect.signature(band).parameters), ["table"])


if __name__ == "__main__":
    unittest.main()
