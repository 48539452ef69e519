import copy
import inspect
import unittest
from fractions import Fraction

from tautcord.cords import Cord
from tautcord.errors import CordError, NoCord

LONG = 10 ** 29 + 319
OTHER_LONG = 10 ** 30 - 11

GAPS = [(1, 1), (1, 2), (7, 3)]
WEIGHTS = [(2, 1), (3, 4)]

NO_LISTS = [None, True, False, 0, 1, -3, LONG, "", "1", "1 (2) 1", (), ((1, 1),), ((1, 1), (1, 2)), ((1, 1), (1, 2), (7, 3)),
            (1, 1), ([(1, 1)],)]

NO_FRACTIONS_ABOVE = [
    (0, 1), (-1, 1), (-1, 2), (-LONG, OTHER_LONG), (0, 2), (0, 0), (2, 2), (2, 4), (LONG, LONG), (6, 3),
    (1, 0), (1, -1), (1, -2), (-1, -2), (-1, 0), (True, 1), (1, True), (True, True), (False, 1), (2, True),
    True, False, 0, 1, 2, LONG, -1, None, "", "1", "1/2", "12", [], [1, 1], [1, 2], [(1, 1)], (), (1,), (1, 1, 1), (1, 2, 3),
    (None, 1), (1, None), ("1", 1), (1, "2"), ("1", "2"), ([1], 1), (1, [1]), ((1, 1), 1), ((1, 1), (1, 1)),
    [[[[1]]]], ((((1,),),),),
]


def many(count, first):
    return [(first + place, first + place + 1) for place in range(count)]


class CordCase(unittest.TestCase):
    def check_row(self, told, answer):
        self.assertEqual(told, answer)
        self.assertIs(type(told), list)
        for part in told:
            self.assertIs(type(part), tuple)
            self.assertEqual([type(number) for number in part], [int, int])

    def check(self, cord, gaps, weights):
        self.assertIsInstance(cord, Cord)
        self.check_row(cord.gaps(), gaps)
        self.check_row(cord.weights(), weights)
        self.assertEqual(cord.beads(), len(weights))
        self.assertIs(type(cord.beads()), int)
        whole = sum((Fraction(*gap) for gap in gaps), Fraction(0))
        self.assertEqual(cord.length(), (whole.numerator, whole.denominator))
        self.assertIs(type(cord.length()), tuple)
        self.check_row(cord.turned().gaps(), gaps[::-1])
        self.check_row(cord.turned().weights(), weights[::-1])

    def check_refused(self, gaps, weights):
        before = copy.deepcopy((gaps, weights))
        with self.subTest(gaps=gaps, weights=weights):
            with self.assertRaises(NoCord) as caught:
                Cord(gaps, weights)
            self.assertIsNone(caught.exception.place)
            self.assertIsInstance(caught.exception, CordError)
            self.assertEqual((gaps, weights), before)


class TestMade(CordCase):
    def test_no_beads(self):
        self.check(Cord([(3, 2)], []), [(3, 2)], [])

    def test_one_bead(self):
        self.check(Cord([(3, 2), (1, 7)], [(5, 1)]), [(3, 2), (1, 7)], [(5, 1)])

    def test_more_beads(self):
        self.check(Cord(GAPS, WEIGHTS), GAPS, WEIGHTS)

    def test_each_count_up_to_twelve(self):
        for beads in range(13):
            with self.subTest(beads=beads):
                self.check(Cord(many(beads + 1, 3), many(beads, 20)), many(beads + 1, 3), many(beads, 20))

    def test_numbers_of_thirty_figures(self):
        gaps = [(LONG, OTHER_LONG), (OTHER_LONG, LONG), (1, LONG)]
        weights = [(OTHER_LONG, 1), (LONG, OTHER_LONG)]
        self.check(Cord(gaps, weights), gaps, weights)

    def test_one_list_handed_in_once_for_both_is_refused(self):
        row = [(1, 1), (2, 1)]
        self.check_refused(row, row)

    def test_by_name(self):
        self.check(Cord(weights=WEIGHTS, gaps=GAPS), GAPS, WEIGHTS)
        self.assertEqual(list(inspect.signature(Cord).parameters), ["gaps", "weights"])

    def test_methods_without_arguments(self):
        for name in ("gaps", "weights", "beads", "length", "turned"):
            with self.subTest(name):
                self.assertEqual(list(inspect.signature(getattr(Cord, name)).parameters), ["self"])


class TestRefused(CordCase):
    def test_no_list(self):
        for thing in NO_LISTS:
            self.check_refused(thing, [])
            self.check_refused(thing, WEIGHTS)
            self.check_refused(GAPS, thing)
            self.check_refused([(1, 1)], thing)
            self.check_refused(thing, thing)

    def test_a_gap_that_is_no_fraction_above_nought(self):
        for thing in NO_FRACTIONS_ABOVE:
            self.check_refused([thing], [])
            for place in range(3):
                gaps = list(GAPS)
                gaps[place] = thing
                self.check_refused(gaps, WEIGHTS)

    def test_a_weight_that_is_no_fraction_above_nought(self):
        for thing in NO_FRACTIONS_ABOVE:
            self.check_refused([(1, 1), (1, 1)], [thing])
            for place in range(2):
                weights = list(WEIGHTS)
                weights[place] = thing
                self.check_refused(GAPS, weights)

    def test_gaps_are_not_one_more(self):
        self.check_refused([], [])
        self.check_refused([(1, 1), (1, 2)], [])
        self.check_refused(GAPS + [(1, 1)], WEIGHTS)
        self.check_refused(GAPS[:2], WEIGHTS)
        self.check_refused(GAPS[:1], WEIGHTS)
        self.check_refused(GAPS, WEIGHTS + [(1, 1)])
        self.check_refused(GAPS, WEIGHTS[:1])
        self.check_refused(GAPS, [])
        self.check_refused([], WEIGHTS)
        self.check_refused(WEIGHTS, GAPS)
        self.check_refused(many(12, 3), many(12, 3))
        self.check_refused(many(14, 3), many(12, 3))

    def test_more_than_twelve_beads(self):
        self.check_refused(many(14, 3), many(13, 3))
        self.check_refused(many(15, 3), many(14, 3))
        self.check_refused(many(101, 3), many(100, 3))
        self.check_refused(many(13, 3), many(13, 3))

    def test_made_as_before_behind_a_refusal(self):
        cord = Cord(GAPS, WEIGHTS)
        for gaps, weights in ((None, WEIGHTS), (GAPS, [(0, 1), (1, 1)]), (GAPS, []), (many(14, 3), many(13, 3))):
            with self.assertRaises(NoCord):
                Cord(gaps, weights)
            self.check(cord, GAPS, WEIGHTS)
            self.check(Cord(GAPS, WEIGHTS), GAPS, WEIGHTS)


class TestLength(CordCase):
    def test_some(self):
        self.assertEqual(Cord([(3, 2)], []).length(), (3, 2))
        self.assertEqual(Cord([(1, 2), (1, 2)], [(9, 1)]).length(), (1, 1))
        self.assertEqual(Cord(GAPS, WEIGHTS).length(), (23, 6))


class TestTurned(CordCase):
    def test_turned(self):
        self.check(Cord(GAPS, WEIGHTS).turned(), [(7, 3), (1, 2), (1, 1)], [(3, 4), (2, 1)])

    def test_turned_twice(self):
        for beads in range(13):
            cord = Cord(many(beads + 1, 3), many(beads, 20))
            self.check(cord.turned().turned(), many(beads + 1, 3), many(beads, 20))

    def test_the_cord_itself_stays(self):
        cord = Cord(GAPS, WEIGHTS)
        turned = cord.turned()
        self.assertIsNot(turned, cord)
        self.assertIsNot(cord.turned(), turned)
        self.check(cord, GAPS, WEIGHTS)
        turned.gaps().append((1, 1))
        self.check(cord, GAPS, WEIGHTS)
        self.check(turned, GAPS[::-1], WEIGHTS[::-1])

    def test_without_beads(self):
        cord = Cord([(3, 2)], [])
        self.assertIsNot(cord.turned(), cord)
        self.check(cord.turned(), [(3, 2)], [])


class TestOwnLists(CordCase):
    def test_lists_handed_in_are_changed_later(self):
        gaps, weights = list(GAPS), list(WEIGHTS)
        cord = Cord(gaps, weights)
        turned = cord.turned()
        gaps[0] = (99, 1)
        gaps.append((5, 1))
        weights.clear()
        self.check(cord, GAPS, WEIGHTS)
        self.check(turned, GAPS[::-1], WEIGHTS[::-1])

    def test_lists_handed_in_stay(self):
        gaps, weights = list(GAPS), list(WEIGHTS)
        cord = Cord(gaps, weights)
        cord.turned()
        cord.length()
        cord.gaps().clear()
        cord.weights().clear()
        self.assertEqual((gaps, weights), (GAPS, WEIGHTS))

    def test_lists_told_are_changed(self):
        cord = Cord(GAPS, WEIGHTS)
        turned = cord.turned()
        for told in (cord.gaps(), cord.weights(), turned.gaps(), turned.weights()):
            told[0] = (99, 1)
            told.append((5, 1))
            told.reverse()
            self.check(cord, GAPS, WEIGHTS)
            self.check(turned, GAPS[::-1], WEIGHTS[::-1])

    def test_each_list_told_is_new(self):
        cord = Cord(GAPS, WEIGHTS)
        told = [GAPS, WEIGHTS, cord.gaps(), cord.gaps(), cord.weights(), cord.weights(), cord.turned().gaps(),
                cord.turned().turned().gaps()]
        self.assertEqual(len({id(thing) for thing in told}), len(told))
        bare = Cord([(1, 1)], [])
        bare.weights().append((1, 1))
        self.check(bare, [(1, 1)], [])

    def test_two_cords_of_the_same_lists(self):
        gaps, weights = list(GAPS), list(WEIGHTS)
        one = Cord(gaps, weights)
        gaps[0] = (5, 1)
        other = Cord(gaps, weights)
        self.check(one, GAPS, WEIGHTS)
        self.check(other, [(5, 1)] + GAPS[1:], WEIGHTS)


if __name__ == "__main__":
    unittest.main()
