"""What the document promises over the whole program: its points 2 and 3."""

import copy
import random
import unittest
from fractions import Fraction

from tautcord.bands import band
from tautcord.changes import cut, heavier, joined, longer
from tautcord.cords import Cord
from tautcord.counts import signs, turns, up_to, worths_below
from tautcord.desk import Desk
from tautcord.errors import CordError, NoCord, NoName, NoText
from tautcord.factors import common, divided
from tautcord.forces import forces
from tautcord.found import cord_of, cord_with, even
from tautcord.ladders import ladder
from tautcord.modes import heights, mode, shares_of, weighed
from tautcord.polys import poly, poly_minus, poly_plus, poly_times, scaled, slope, worth_at
from tautcord.ratios import fraction, is_fraction, is_under, minus, over, plus, side, times
from tautcord.sisters import alike, sister
from tautcord.spans import span
from tautcord.texts import read_cord, read_fraction, read_row, show_cord, show_fraction, show_row
from tautcord.tones import free, held, loose, near, squares
from tautcord.walks import walked
from tautcord.wholes import divisor, is_whole

LONG = 10 ** 29 + 319
OTHER_LONG = 10 ** 30 - 11

ENDS = ("held", "loose")


def pair(number):
    return (number.numerator, number.denominator)


def pairs(row):
    return [pair(Fraction(number)) for number in row]


def fractions(chance, count, figures):
    low, high = 10 ** (figures - 1), 10 ** figures
    return [pair(Fraction(chance.randrange(low, high), chance.randrange(low, high))) for place in range(count)]


def some_cord(beads, figures, seed):
    chance = random.Random(seed)
    return Cord(fractions(chance, beads + 1, figures), fractions(chance, beads, figures))


def some_cords():
    """Cords with each number of beads: of small and of longer fractions, and all the same."""
    for beads in range(13):
        yield some_cord(beads, 1, 600 + beads)
        yield some_cord(beads, 3, 620 + beads)
        yield Cord([(1, 1)] * (beads + 1), [(1, 1)] * beads)
    yield some_cord(12, 30, 640)


def above_all(cord):
    pulls = [1 / Fraction(*gap) for gap in cord.gaps()]
    return sum(((ahead + behind) / Fraction(*weight) for ahead, behind, weight in zip(pulls, pulls[1:], cord.weights())),
               Fraction(0))


def numbers_about(cord, chance):
    high = Fraction(int(above_all(cord)) + 1)
    row = [Fraction(-LONG), Fraction(-1), Fraction(0), high, Fraction(10 ** 100 - 1)]
    row += [high * Fraction(chance.randrange(1, 500), 500) for place in range(3)]
    row += [high * Fraction(chance.randrange(1, 100), 2000) for place in range(3)]
    # Whole numbers and halves are often worths where all gaps and weights are the same.
    return [pair(number) for number in row + [Fraction(chance.randrange(1, 9), 2) for place in range(3)]]


def all_gaps(cord, end):
    product = Fraction(1)
    for gap in cord.gaps() if end == "held" else cord.gaps()[:-1]:
        product *= Fraction(*gap)
    return pair(product)


class TestThePromise(unittest.TestCase):
    """Point 3."""

    def test_the_two_polynomials_by_steps_and_by_forces(self):
        chance = random.Random(650)
        for cord in some_cords():
            told = {"held": held(cord), "loose": loose(cord)}
            for t in numbers_about(cord, chance):
                last = walked(cord, t)[-1]
                self.assertEqual((worth_at(told["held"], t), worth_at(told["loose"], t)), last)
            for end in ENDS:
                self.assertEqual(scaled(band(forces(cord, end)), all_gaps(cord, end)), told[end])

    def test_worths_above_nought_and_unlike(self):
        for cord in some_cords():
            high = pair(above_all(cord))
            for end, one in (("held", held(cord)), ("loose", loose(cord))):
                self.assertEqual(up_to(cord, end, (0, 1)), 0)
                self.assertEqual(up_to(cord, end, high), cord.beads())
                # No worth is one twice: the polynomial and its slope have nothing in common.
                self.assertEqual(common(one, slope(one)), [(1, 1)])
            self.assertEqual(common(held(cord), loose(cord)), [(1, 1)])

    def test_between_two_of_the_one_lies_one_of_the_other(self):
        chance = random.Random(651)
        for cord in some_cords():
            for t in numbers_about(cord, chance):
                helds = (worths_below(cord, "held", t), up_to(cord, "held", t))
                looses = (worths_below(cord, "loose", t), up_to(cord, "loose", t))
                with self.subTest(gaps=cord.gaps(), weights=cord.weights(), t=t):
                    self.assertLessEqual(helds[1], looses[0])
                    self.assertLessEqual(looses[1], helds[0] + 1)
                    self.assertEqual(helds[1] - helds[0], int(worth_at(held(cord), t) == (0, 1)))
                    self.assertEqual(looses[1] - looses[0], int(worth_at(loose(cord), t) == (0, 1)))

    def test_so_do_spans_tell(self):
        for beads in range(1, 13):
            cord = some_cord(beads, 2, 660 + beads)
            row = [span(cord, end, k, 60) for k in range(1, beads + 1) for end in ("loose", "held")]
            # Neighbours may lie so near to one another that both have one span.
            for (low, high), (further, highest) in zip(row, row[1:]):
                self.assertTrue(is_under(low, high))
                self.assertFalse(is_under(further, low))
                self.assertFalse(is_under(highest, high))

    def test_so_do_the_squares_tell(self):
        chance = random.Random(652)
        for cord in some_cords():
            told = squares(cord)
            for t in numbers_about(cord, chance):
                heights_there = heights(cord, t)
                self.assertEqual(worth_at(told, t), weighed(cord, heights_there, heights_there))
                self.assertEqual(side(worth_at(told, t)), 1 if cord.beads() > 0 else 0)
            one, other = held(cord), loose(cord)
            self.assertEqual(told, poly_minus(poly_times(slope(one), other), poly_times(one, slope(other))))

    def test_the_turns_of_the_modes(self):
        for beads in range(1, 13):
            worths = [Fraction(k * k + 2 * k + 3, 5) for k in range(2 * beads)]
            cord = cord_of(pairs(worths[1::2]), pairs(worths[::2]), (7, 4))
            for end, row in (("held", worths[1::2]), ("loose", worths[::2])):
                self.assertEqual([turns(mode(cord, end, pair(worth))) for worth in row], list(range(beads)))

    def test_a_cord_is_told_just_where_all_quotients_are_above_nought(self):
        """Small polynomials without choice: most are no cord's, and the place is told."""
        chance = random.Random(653)
        told = 0
        for turn in range(3000):
            count = chance.randrange(1, 4)
            upper = [pair(Fraction(chance.choice((-1, 1)) ** power * chance.randrange(1, 9), chance.randrange(1, 4)))
                     for power in range(count)]
            lower = [(1, 1)] + [pair(Fraction((-1) ** power * chance.randrange(1, 9), chance.randrange(1, 4)))
                                for power in range(1, count)]
            quotients, place = ladder(upper, lower)
            self.assertTrue(all(side(quotient) == 1 for quotient in quotients))
            if place is None:
                cord = cord_with(upper, lower)
                self.assertEqual((held(cord), loose(cord)), (upper, lower))
                self.assertEqual(len(quotients), 2 * count - 1)
                told += 1
            else:
                self.assertEqual(len(quotients), place)
                with self.assertRaises(NoCord) as caught:
                    cord_with(upper, lower)
                self.assertEqual(caught.exception.place, place)
        self.assertGreater(told, 100)
        self.assertLess(told, 2900)

    def test_no_other_cord_has_both(self):
        for cord in some_cords():
            back = cord_with(held(cord), loose(cord))
            self.assertEqual((back.gaps(), back.weights()), (cord.gaps(), cord.weights()))

    def test_heavier_and_longer_raise_no_worth(self):
        chance = random.Random(654)
        for cord in some_cords():
            numbers = numbers_about(cord, chance)
            others = [longer(cord, chance.randrange(cord.beads() + 1), fractions(chance, 1, 2)[0])]
            if cord.beads() > 0:
                others.append(heavier(cord, chance.randrange(cord.beads()) + 1, fractions(chance, 1, 2)[0]))
            for other in others:
                for end in ENDS:
                    for t in numbers:
                        self.assertGreaterEqual(worths_below(other, end, t), worths_below(cord, end, t))
                        self.assertGreaterEqual(up_to(other, end, t), up_to(cord, end, t))


def plain(thing):
    """A thing with every cord in it as a tuple, so that it can be compared."""
    if isinstance(thing, Cord):
        return ("a cord", thing.gaps(), thing.weights())
    if isinstance(thing, (list, tuple)):
        return type(thing)(plain(part) for part in thing)
    return copy.deepcopy(thing)


def lists_in(thing):
    if isinstance(thing, Cord):
        return lists_in([part for part in vars(thing).values() if isinstance(part, list)])[1:]
    if isinstance(thing, list):
        return [thing] + [inner for part in thing for inner in lists_in(part)]
    if isinstance(thing, tuple):
        return [inner for part in thing for inner in lists_in(part)]
    return []


def calls():
    """Each function of the program that takes or tells a list or a cord, with things to hand in."""
    cord, other, bare = read_cord("1 (1) 1 (1) 1"), read_cord("1 (2) 1/2 (3) 2"), read_cord("3/2")
    one, two, nought = pairs([3, Fraction(-1, 2), 0, 5]), pairs([1, 2]), []
    for table in ([], [[one]], [[one, two], [two, one]], [[one, two, nought], [two, one, two], [nought, two, nought]]):
        yield band, (table,)
    for row in ([], pairs([0]), pairs([0, 0]), one, pairs([1, 0, -3, 0, 0])):
        for asked in (poly, slope, signs, turns, show_row):
            yield asked, (row,)
    for asked in (poly_plus, poly_minus, poly_times, common):
        for told in ((one, two), (two, one), (one, one), (one, nought), (nought, one), (nought, nought)):
            yield asked, told
    for told in ((one, two), (two, one), (one, one), (nought, one), (one, pairs([7]))):
        yield divided, told
    for number in ((0, 1), (1, 1), (-2, 3)):
        yield scaled, (one, number)
        yield scaled, (nought, number)
        yield worth_at, (one, number)
    for each in (cord, other, bare):
        for asked in (held, loose, near, free, squares, show_cord, Cord.gaps, Cord.weights, Cord.turned, Cord.length):
            yield asked, (each,)
        for end in ENDS:
            yield forces, (each, end)
            yield alike, (each, other, end)
        for t in ((0, 1), (1, 1), (-2, 3)):
            yield walked, (each, t)
            yield walked, (each, t, (1, 1), (0, 1))
            yield heights, (each, t)
            yield worths_below, (each, "held", t)
            yield up_to, (each, "loose", t)
        yield joined, (each, other)
        yield joined, (bare, each)
        yield longer, (each, 0, (1, 2))
        yield cord_with, (held(each), loose(each))
        yield ladder, (held(each), loose(each))
    yield Cord, (pairs([1, 2, 3]), pairs([4, 5]))
    yield Cord, (pairs([1]), [])
    yield ladder, (pairs([1, -1]), pairs([1, -1]))
    yield ladder, (pairs([-1]), pairs([1]))
    yield cord_of, (pairs([2, 4]), pairs([1, 3]), (1, 1))
    yield cord_of, ([], [], (1, 1))
    for worths in ([], [1], [1, 3], [1, 3, 4]):
        yield even, (pairs(worths), (3, 1))
    yield mode, (cord, "held", (1, 1))
    yield weighed, (cord, pairs([1, 2]), pairs([3, 4]))
    yield shares_of, (cord, "held", pairs([1, 3]), pairs([5, 7]))
    yield shares_of, (bare, "held", [], [])
    yield heavier, (cord, 2, (1, 2))
    yield cut, (cord, 1)
    yield cut, (other, 2)
    yield sister, (cord, pairs([Fraction(1, 2), 2]))
    yield sister, (bare, [])
    yield span, (cord, "held", 1, 5)
    for text in ("", "1", "1 -1/2"):
        yield read_row, (text,)
    yield read_cord, ("1 (2) 1",)


class TestHandedInAndTold(unittest.TestCase):
    """Point 2."""

    def test_what_is_handed_in_stays(self):
        for asked, told in calls():
            with self.subTest(asked=asked.__qualname__, told=plain(told)):
                before = plain(told)
                first = plain(asked(*told))
                self.assertEqual(plain(told), before)
                self.assertEqual(plain(asked(*told)), first)

    def test_every_list_is_new_and_no_two_are_one(self):
        for asked, told in calls():
            with self.subTest(asked=asked.__qualname__, told=plain(told)):
                handed = lists_in(told)
                first, second = asked(*told), asked(*told)
                mine = lists_in(first) + lists_in(second)
                self.assertEqual(len({id(one) for one in mine}), len(mine))
                self.assertFalse({id(one) for one in mine} & {id(one) for one in handed})

    def test_what_was_told_is_changed_and_the_same_is_told_again(self):
        for asked, told in calls():
            with self.subTest(asked=asked.__qualname__, told=plain(told)):
                answer = asked(*told)
                if isinstance(answer, Cord):
                    continue
                wanted, before = plain(answer), plain(told)
                for one in lists_in(answer):
                    one.append((7, 9))
                    one.reverse()
                self.assertEqual(plain(asked(*told)), wanted)
                self.assertEqual(plain(told), before)

    def test_what_is_done_later_to_a_list_handed_in(self):
        for asked, told in calls():
            with self.subTest(asked=asked.__qualname__):
                told = tuple(copy.deepcopy(thing) if isinstance(thing, list) else thing for thing in told)
                answer = asked(*told)
                wanted = plain(answer)
                for thing in told:
                    for one in lists_in(thing) if isinstance(thing, list) else []:
                        one.append((7, 9))
                        one.reverse()
                self.assertEqual(plain(answer), wanted)

    def test_what_a_cord_tells_is_changed_and_the_cord_stays(self):
        for asked, told in calls():
            answer = asked(*told)
            for cord in answer if isinstance(answer, tuple) else (answer,):
                if isinstance(cord, Cord):
                    before = plain(cord)
                    cord.gaps().reverse()
                    cord.gaps().clear()
                    cord.weights().append((1, 1))
                    cord.turned().gaps().clear()
                    self.assertEqual(plain(cord), before)


def any_thing(chance, depth):
    """Built of whole numbers, truths, None, texts, lists and tuples; often nearly a fraction or a row of them."""
    choice = chance.randrange(12 if depth > 0 else 6)
    if choice < 2:
        return chance.choice([0, 1, 2, 3, 4, 6, -1, -2, LONG, -OTHER_LONG])
    if choice == 2:
        return chance.choice([True, False, None])
    if choice < 6:
        return chance.choice(["", "1", "1/2", "2/4", "1 (2) 1", "1 2", "show a", "cord a 1", "a", "(1)", "-0", "1 (1)", "drop a", "~", " "])
    if choice < 9:
        return tuple(any_thing(chance, depth - 1) for place in range(chance.choice([0, 1, 2, 2, 2, 2, 3])))
    if choice == 9:
        return [any_thing(chance, depth - 1) for place in range(chance.randrange(4))]
    if choice == 10:
        return [pair(Fraction(chance.randrange(1, 9), chance.randrange(1, 9))) for place in range(chance.randrange(4))]
    return (chance.randrange(-3, 7), chance.randrange(-1, 7))


def is_known_whole(thing):
    return type(thing) is int


def is_known_fraction(thing):
    if type(thing) is not tuple or len(thing) != 2 or not all(is_known_whole(part) for part in thing):
        return False
    return thing[1] > 0 and pair(Fraction(thing[0], thing[1])) == thing


def is_known_row_above(thing):
    return type(thing) is list and all(is_known_fraction(part) and part[0] > 0 for part in thing)


class TestAnyThing(unittest.TestCase):
    """Point 2: wherever a refusal, or a truth, is told for any thing."""

    def setUp(self):
        chance = random.Random(670)
        self.things = [any_thing(chance, depth) for depth in range(6) for turn in range(500)]
        self.assertGreater(len([thing for thing in self.things if is_known_fraction(thing)]), 50)
        self.assertGreater(len([thing for thing in self.things if is_known_row_above(thing)]), 50)

    def check(self, error, allowed, asked, *told):
        before = plain(told)
        with self.subTest(asked=asked.__qualname__, told=before):
            try:
                answer = asked(*told)
            except CordError as refusal:
                self.assertIs(type(refusal), error)
                self.assertFalse(allowed)
                answer = None
            else:
                self.assertTrue(allowed)
            self.assertEqual(plain(told), before)
        return answer

    def test_whole_numbers_and_fractions(self):
        for thing in self.things:
            self.assertIs(is_whole(thing), is_known_whole(thing))
            self.assertIs(is_fraction(thing), is_known_fraction(thing))

    def test_cords(self):
        for one, other in zip(self.things, self.things[1:] + self.things[:1]):
            for gaps, weights in ((one, other), (one, [(1, 1)]), ([(1, 1)], other), ([(1, 1), (2, 1)], other), (one, [])):
                allowed = is_known_row_above(gaps) and is_known_row_above(weights) and len(gaps) == len(weights) + 1
                self.check(NoCord, allowed, Cord, gaps, weights)

    def test_heavier_and_longer(self):
        cord = read_cord("1 (2) 1/2 (3) 2")
        for thing in self.things:
            allowed = is_known_fraction(thing) and thing[0] > 0
            self.check(NoCord, allowed, heavier, cord, 1, thing)
            self.check(NoCord, allowed, longer, cord, 2, thing)

    def test_texts(self):
        texts = {"fraction": ("1", "1/2"), "row": ("", "1", "1/2", "1 2"), "cord": ("1", "1/2", "1 (2) 1")}
        for thing in self.things:
            for name, asked in (("fraction", read_fraction), ("row", read_row), ("cord", read_cord)):
                self.check(NoText, isinstance(thing, str) and thing in texts[name], asked, thing)

    def test_the_desk(self):
        for thing in self.things:
            if thing in ("show a", "drop a"):
                self.check(NoName, False, Desk().say, thing)
            else:
                self.check(NoText, thing == "cord a 1", Desk().say, thing)


class TestTheBounds(unittest.TestCase):
    """Point 2: 12 beads, fractions of 30 figures, a number t of 100, 60 halvings, a text of 3000 signs."""

    def test_a_long_cord_through_the_whole_program(self):
        chance = random.Random(680)
        cord = some_cord(12, 30, 681)
        more = (LONG, OTHER_LONG)
        other = longer(heavier(cord, 12, more), 12, more)
        for t in fractions(chance, 2, 100) + [(-1, 10 ** 100 - 1), (10 ** 100 - 1, 1)]:
            for end in ENDS:
                self.assertLessEqual(worths_below(cord, end, t), worths_below(other, end, t))
        first, second = cut(cord, 6)
        self.assertEqual((first.beads(), second.beads()), (5, 6))
        again = joined(first, second)
        self.assertEqual((again.beads(), again.length()), (11, cord.length()))
        self.assertIs(alike(cord, cord.turned(), "held"), True)
        self.assertIs(alike(cord, cord.turned(), "loose"), False)
        back = cord_with(held(other), loose(other))
        self.assertEqual(plain(back), plain(other))
        self.assertEqual(plain(read_cord(show_cord(cord))), plain(cord))
        with self.assertRaises(NoCord):
            joined(cord, first)

    def test_a_long_cord_at_the_desk(self):
        cord, desk = some_cord(12, 30, 682), Desk()
        self.assertEqual(desk.say(f"cord abcdefgh {show_cord(cord)}"), "ok")
        self.assertEqual(desk.say("show abcdefgh"), show_cord(cord))
        self.assertEqual(desk.say("span abcdefgh loose 12 60"), show_row(list(span(cord, "loose", 12, 60))))
        self.assertEqual(desk.say(f"count abcdefgh held {LONG}/{OTHER_LONG}"),
                         f"{worths_below(cord, 'held', (LONG, OTHER_LONG))} {up_to(cord, 'held', (LONG, OTHER_LONG))}")
        self.assertEqual(desk.say("turn x abcdefgh"), "ok")
        self.assertEqual(desk.say("alike x abcdefgh held"), "yes")

    def test_rows_of_three_thousand_signs(self):
        desk = Desk()
        for row in ("x" * 3000, " " * 3000, "show " + "a" * 2995, "cord a " + "1" * 2993, "cord a 1" + " (1) 1" * 498,
                    "find a " + ("1 " * 1495).strip(), "find a 1 ;" + " ;" * 1495, "cord a " + "(" * 2993, "show a" + " a" * 1497):
            self.assertLessEqual(len(row), 3000)
            with self.assertRaises(NoText):
                desk.say(row)
        self.assertIsNone(desk_place(desk, f"find a {'1 ' * 700}; 1{' 1' * 700}"))
        numbers = " ".join(f"{OTHER_LONG - k}/{LONG}" for k in range(13))
        self.assertEqual(desk_place(desk, f"find a {numbers} ; 1{' -1' * 12}"), 0)

    def test_figures_of_small_things(self):
        self.assertEqual(divisor(10 ** 400, 6 * 10 ** 399), 2 * 10 ** 399)
        self.assertEqual(show_fraction(over(times(plus((1, OTHER_LONG), (1, LONG)), (LONG, 1)), (1, OTHER_LONG))),
                         show_fraction(fraction(LONG + OTHER_LONG)))
        self.assertEqual(minus((1, 2), fraction(1, 2)), (0, 1))


def desk_place(desk, row):
    """The place at which a row is refused with NoCord."""
    try:
        desk.say(row)
    except NoCord as refusal:
        return refusal.place
    raise AssertionError("not refused")


if __name__ == "__main__":
    unittest.main()
