import copy
import inspect
import unittest
from fractions import Fraction

from tautcord import ratios
from tautcord.errors import NoFraction
from tautcord.ratios import fraction, is_fraction, is_under, minus, over, plus, side, times

LONG = 10 ** 29 + 319
OTHER_LONG = 10 ** 30 - 11

SMALL = sorted({Fraction(top, bottom) for top in range(-6, 7) for bottom in range(1, 7)})
LARGE = [
    Fraction(LONG, OTHER_LONG), Fraction(-LONG, OTHER_LONG), Fraction(OTHER_LONG, LONG), Fraction(LONG),
    Fraction(-OTHER_LONG), Fraction(1, LONG), Fraction(-1, OTHER_LONG), Fraction(10 ** 29, 3 ** 60),
    Fraction(3 ** 60, 10 ** 29), Fraction(-(6 ** 38), 10 ** 29 + 1), Fraction(7, 10 ** 29), Fraction(-7, 2 * 10 ** 29),
    Fraction(LONG ** 5, 6 ** 120), Fraction(-(OTHER_LONG ** 5), 6 ** 119), Fraction(0), Fraction(1), Fraction(5, 6),
]


def pair(number):
    return (number.numerator, number.denominator)


class RatioCase(unittest.TestCase):
    def check(self, told, answer):
        self.assertEqual(told, answer)
        self.assertIs(type(told), tuple)
        self.assertEqual([type(part) for part in told], [int, int])

    def check_all(self, deed, answer, rows):
        for one in rows:
            for other in rows:
                with self.subTest(one=one, other=other):
                    self.check(deed(pair(one), pair(other)), pair(answer(one, other)))


class TestIsFraction(unittest.TestCase):
    def check(self, thing, answer):
        with self.subTest(thing=thing):
            self.assertIs(is_fraction(thing), answer)

    def test_fractions(self):
        for thing in ((1, 1), (1, 2), (-1, 2), (7, 3), (-7, 3), (5, 1), (-5, 1), (LONG, LONG + 1), (-1, OTHER_LONG),
                      (10 ** 400, 3 ** 700)):
            self.check(thing, True)

    def test_nought_has_one_form(self):
        self.check((0, 1), True)
        self.check((0, 2), False)
        self.check((0, -1), False)
        self.check((0, 0), False)

    def test_not_in_lowest_terms(self):
        for thing in ((2, 2), (2, 4), (-2, 4), (6, 3), (15, 35), (LONG, LONG), (LONG * 3, LONG * 2)):
            self.check(thing, False)

    def test_bottom_nought_and_below(self):
        for thing in ((1, 0), (-1, 0), (1, -1), (1, -2), (-1, -2), (3, -LONG)):
            self.check(thing, False)

    def test_tuples_of_other_lengths(self):
        for thing in ((), (1,), (0,), (1, 2, 3), (1, 1, 1), (1, 2, 3, 4)):
            self.check(thing, False)

    def test_a_truth_within(self):
        for thing in ((True, 1), (1, True), (True, True), (False, 1), (1, False), (True, 2), (False, True)):
            self.check(thing, False)

    def test_other_parts(self):
        for thing in ((None, 1), (1, None), ("1", 1), (1, "1"), ("1", "2"), ([1], 2), (1, [2]), ((1, 2), 3), (1, (2, 3)),
                      ((1, 1), (1, 1)), ([[[["a"]]]], 1)):
            self.check(thing, False)

    def test_other_things(self):
        for thing in (0, 1, -3, LONG, True, False, None, "", "1/2", "12", [], [1, 2], [(1, 2)], [0, 1], [[], []]):
            self.check(thing, False)

    def test_nothing_is_changed(self):
        thing = ([1, [2]], [None, (3, [4])])
        before = copy.deepcopy(thing)
        is_fraction(thing)
        self.assertEqual(thing, before)


class TestFraction(RatioCase):
    def test_each_sign(self):
        self.check(fraction(3, 4), (3, 4))
        self.check(fraction(-3, 4), (-3, 4))
        self.check(fraction(3, -4), (-3, 4))
        self.check(fraction(-3, -4), (3, 4))

    def test_a_common_divisor(self):
        self.check(fraction(6, 8), (3, 4))
        self.check(fraction(-6, 8), (-3, 4))
        self.check(fraction(6, -8), (-3, 4))
        self.check(fraction(-6, -8), (3, 4))
        self.check(fraction(12, 4), (3, 1))
        self.check(fraction(4, -12), (-1, 3))
        self.check(fraction(7, 7), (1, 1))
        self.check(fraction(7, -7), (-1, 1))

    def test_bottom_left_out(self):
        self.check(fraction(5), (5, 1))
        self.check(fraction(-5), (-5, 1))
        self.check(fraction(0), (0, 1))

    def test_top_nought(self):
        self.check(fraction(0, 1), (0, 1))
        self.check(fraction(0, 7), (0, 1))
        self.check(fraction(0, -7), (0, 1))
        self.check(fraction(0, LONG), (0, 1))

    def test_numbers_of_thirty_figures_and_more(self):
        self.check(fraction(LONG * 6, OTHER_LONG * 15), pair(Fraction(LONG * 2, OTHER_LONG * 5)))
        self.check(fraction(LONG * 6, -LONG * 15), (-2, 5))
        self.check(fraction(-(LONG ** 20), LONG ** 19), (-LONG, 1))

    def test_all_small_pairs(self):
        for top in range(-30, 31):
            for bottom in range(-30, 31):
                if bottom != 0:
                    self.check(fraction(top, bottom), pair(Fraction(top, bottom)))

    def test_what_is_made_is_a_fraction(self):
        for top in (-LONG, -6, 0, 4, LONG):
            for bottom in (-OTHER_LONG, -4, -1, 1, 6, LONG):
                self.assertIs(is_fraction(fraction(top, bottom)), True)

    def test_bottom_nought_is_refused(self):
        for top in (0, 1, -1, LONG):
            with self.subTest(top=top):
                with self.assertRaises(NoFraction):
                    fraction(top, 0)

    def test_what_is_no_whole_number_is_refused(self):
        for thing in (True, False, None, "", "1", [], [1], (), (1, 2)):
            with self.subTest(thing=thing):
                with self.assertRaises(NoFraction):
                    fraction(thing)
                with self.assertRaises(NoFraction):
                    fraction(thing, 2)
                with self.assertRaises(NoFraction):
                    fraction(2, thing)

    def test_made_as_before_behind_a_refusal(self):
        before = fraction(6, -8)
        with self.assertRaises(NoFraction):
            fraction(6, 0)
        self.check(fraction(6, -8), before)
        self.check(fraction(6), (6, 1))

    def test_its_parameters(self):
        parameters = inspect.signature(fraction).parameters
        self.assertEqual(list(parameters), ["top", "bottom"])
        self.assertEqual(parameters["bottom"].default, 1)
        self.check(fraction(top=2, bottom=6), (1, 3))


class TestPlus(RatioCase):
    def test_some(self):
        self.check(plus((1, 2), (1, 3)), (5, 6))
        self.check(plus((1, 6), (1, 3)), (1, 2))
        self.check(plus((1, 6), (1, 10)), (4, 15))
        self.check(plus((1, 2), (1, 2)), (1, 1))
        self.check(plus((1, 2), (-1, 2)), (0, 1))
        self.check(plus((0, 1), (0, 1)), (0, 1))
        self.check(plus((3, 1), (-5, 1)), (-2, 1))

    def test_small_numbers(self):
        self.check_all(plus, lambda one, other: one + other, SMALL)

    def test_large_numbers(self):
        self.check_all(plus, lambda one, other: one + other, LARGE)


class TestMinus(RatioCase):
    def test_some(self):
        self.check(minus((1, 2), (1, 3)), (1, 6))
        self.check(minus((1, 3), (1, 2)), (-1, 6))
        self.check(minus((5, 6), (1, 3)), (1, 2))
        self.check(minus((3, 2), (1, 2)), (1, 1))
        self.check(minus((2, 7), (2, 7)), (0, 1))
        self.check(minus((0, 1), (2, 7)), (-2, 7))
        self.check(minus((0, 1), (0, 1)), (0, 1))

    def test_small_numbers(self):
        self.check_all(minus, lambda one, other: one - other, SMALL)

    def test_large_numbers(self):
        self.check_all(minus, lambda one, other: one - other, LARGE)


class TestTimes(RatioCase):
    def test_some(self):
        self.check(times((1, 2), (1, 3)), (1, 6))
        self.check(times((2, 3), (3, 4)), (1, 2))
        self.check(times((-2, 3), (-3, 2)), (1, 1))
        self.check(times((-2, 3), (9, 2)), (-3, 1))
        self.check(times((0, 1), (5, 7)), (0, 1))
        self.check(times((5, 7), (0, 1)), (0, 1))

    def test_small_numbers(self):
        self.check_all(times, lambda one, other: one * other, SMALL)

    def test_large_numbers(self):
        self.check_all(times, lambda one, other: one * other, LARGE)


class TestOver(RatioCase):
    def test_some(self):
        self.check(over((1, 2), (1, 3)), (3, 2))
        self.check(over((1, 2), (-1, 3)), (-3, 2))
        self.check(over((-1, 2), (-1, 4)), (2, 1))
        self.check(over((4, 9), (2, 3)), (2, 3))
        self.check(over((5, 7), (5, 7)), (1, 1))
        self.check(over((0, 1), (-5, 7)), (0, 1))
        self.check(over((3, 1), (6, 1)), (1, 2))

    def check_quotients(self, rows):
        for one in rows:
            for other in rows:
                if other != 0:
                    with self.subTest(one=one, other=other):
                        self.check(over(pair(one), pair(other)), pair(one / other))

    def test_small_numbers(self):
        self.check_quotients(SMALL)

    def test_large_numbers(self):
        self.check_quotients(LARGE)

    def test_by_nought_is_refused(self):
        for one in SMALL + LARGE:
            with self.subTest(one=one):
                with self.assertRaises(NoFraction):
                    over(pair(one), (0, 1))

    def test_told_as_before_behind_a_refusal(self):
        before = over((2, 3), (-4, 5))
        with self.assertRaises(NoFraction):
            over((2, 3), (0, 1))
        self.check(over((2, 3), (-4, 5)), before)


class TestIsUnder(unittest.TestCase):
    def test_less(self):
        for one, other in (((1, 3), (1, 2)), ((-1, 2), (-1, 3)), ((-1, 2), (1, 3)), ((-1, 3), (0, 1)), ((0, 1), (1, 9)),
                           ((2, 3), (3, 4)), ((LONG, LONG + 1), (LONG + 1, LONG + 2))):
            with self.subTest(one=one, other=other):
                self.assertIs(is_under(one, other), True)
                self.assertIs(is_under(other, one), False)

    def test_equal(self):
        for one in ((0, 1), (1, 2), (-1, 2), (5, 1), (-LONG, OTHER_LONG)):
            with self.subTest(one=one):
                self.assertIs(is_under(one, one), False)

    def test_all_pairs(self):
        for rows in (SMALL, LARGE):
            for one in rows:
                for other in rows:
                    with self.subTest(one=one, other=other):
                        self.assertIs(is_under(pair(one), pair(other)), one < other)


class TestSide(unittest.TestCase):
    def check(self, one, answer):
        with self.subTest(one=one):
            told = side(one)
            self.assertEqual(told, answer)
            self.assertIs(type(told), int)

    def test_above(self):
        for one in ((1, 1), (1, 7), (5, 2), (LONG, OTHER_LONG), (1, LONG)):
            self.check(one, 1)

    def test_nought(self):
        self.check((0, 1), 0)

    def test_below(self):
        for one in ((-1, 1), (-1, 7), (-5, 2), (-LONG, OTHER_LONG), (-1, LONG)):
            self.check(one, -1)


class TestInterface(unittest.TestCase):
    def test_parameters(self):
        wanted = {"is_fraction": ["thing"], "plus": ["one", "other"], "minus": ["one", "other"],
                  "times": ["one", "other"], "over": ["one", "other"], "is_under": ["one", "other"], "side": ["one"]}
        for name, parameters in wanted.items():
            with self.subTest(name):
                self.assertEqual(list(inspect.signature(getattr(ratios, name)).parameters), parameters)


if __name__ == "__main__":
    unittest.main()
