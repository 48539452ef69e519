import copy
import inspect
import math
import unittest

from tautcord.wholes import divisor, is_whole

LONG = 10 ** 30 - 11
OTHER_LONG = 10 ** 30 + 57


class TestIsWhole(unittest.TestCase):
    def test_whole_numbers(self):
        for thing in (0, 1, -1, 2, -17, LONG, -LONG, 10 ** 400):
            with self.subTest(thing=thing):
                self.assertIs(is_whole(thing), True)

    def test_truths_are_no_whole_numbers(self):
        self.assertIs(is_whole(True), False)
        self.assertIs(is_whole(False), False)

    def test_other_things(self):
        things = (None, "", "1", "a", [], [1], (), (1,), (1, 2), (1, 2, 3), [[]], [[[[[1]]]]], ((((1,),),),),
                  [True, None, "x", (1, [2])])
        for thing in things:
            with self.subTest(thing=thing):
                self.assertIs(is_whole(thing), False)

    def test_nothing_is_changed(self):
        thing = [1, [True, (None, ["a"])], ()]
        before = copy.deepcopy(thing)
        is_whole(thing)
        self.assertEqual(thing, before)

    def test_its_parameter(self):
        self.assertEqual(list(inspect.signature(is_whole).parameters), ["thing"])


class TestDivisor(unittest.TestCase):
    def check(self, one, other, answer):
        with self.subTest(one=one, other=other):
            told = divisor(one, other)
            self.assertEqual(told, answer)
            self.assertIs(type(told), int)

    def test_either_sign(self):
        self.check(12, 18, 6)
        self.check(-12, 18, 6)
        self.check(12, -18, 6)
        self.check(-12, -18, 6)
        self.check(18, 12, 6)
        self.check(-18, -12, 6)

    def test_nothing_shared(self):
        self.check(8, 9, 1)
        self.check(-8, 9, 1)
        self.check(1, 1, 1)
        self.check(-1, -1, 1)
        self.check(1, -LONG, 1)

    def test_nought_with_a_number(self):
        self.check(0, 5, 5)
        self.check(5, 0, 5)
        self.check(0, -5, 5)
        self.check(-5, 0, 5)
        self.check(0, 1, 1)
        self.check(-1, 0, 1)
        self.check(0, -LONG, LONG)

    def test_nought_with_nought(self):
        self.check(0, 0, 0)

    def test_one_the_multiple_of_the_other(self):
        self.check(7, 21, 7)
        self.check(21, 7, 7)
        self.check(-7, 21, 7)
        self.check(21, -7, 7)
        self.check(7, 7, 7)
        self.check(7, -7, 7)
        self.check(LONG * 6, LONG, LONG)

    def test_numbers_of_thirty_figures_and_more(self):
        self.check(10 ** 29, 4 * 10 ** 29 + 2 * 10 ** 28, 2 * 10 ** 28)
        self.check(LONG, OTHER_LONG, math.gcd(LONG, OTHER_LONG))
        self.check(-LONG * 77, OTHER_LONG * 77, math.gcd(LONG, OTHER_LONG) * 77)
        self.check(2 ** 100 * 3 ** 20, 2 ** 90 * 5 ** 30, 2 ** 90)
        self.check(LONG ** 40 * 15, LONG ** 39 * 35, LONG ** 39 * 5)

    def test_two_neighbours_of_a_row_of_sums(self):
        # Neighbours in this row take the most steps of all numbers of their size.
        one, other = 1, 1
        while other < 10 ** 400:
            one, other = other, one + other
        self.check(one, other, 1)
        self.check(one * 9, -other * 9, 9)

    def test_all_small_pairs(self):
        for one in range(-40, 41):
            for other in range(-40, 41):
                self.assertEqual(divisor(one, other), math.gcd(one, other), (one, other))

    def test_its_parameters(self):
        self.assertEqual(list(inspect.signature(divisor).parameters), ["one", "other"])
        self.assertEqual(divisor(one=4, other=6), 2)


if __name__ == "__main__":
    unittest.main()
