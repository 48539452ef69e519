import copy
import inspect
import random
import unittest
from fractions import Fraction

from tautcord import texts
from tautcord.cords import Cord
from tautcord.errors import CordError, NoText
from tautcord.texts import read_cord, read_fraction, read_row, show_cord, show_fraction, show_row
from tautcord.tones import free, held

LONG = 10 ** 29 + 319
OTHER_LONG = 10 ** 30 - 11
TOO_LONG = 10 ** 30

NO_TEXTS = [None, True, False, 0, 1, -1, LONG, [], (), [1], ["1"], ["1", "(2)", "1"], ("1",), (1, 1), (1, 2), [(1, 1)], [[]],
            [[[["1"]]]], (((("1",),),),), [None], ("", "")]

FRACTIONS = {
    "0": (0, 1), "1": (1, 1), "-1": (-1, 1), "7": (7, 1), "10": (10, 1), "-10": (-10, 1), "1/2": (1, 2), "-1/2": (-1, 2),
    "2/3": (2, 3), "-20/3": (-20, 3), "3/10": (3, 10), "100/1001": (100, 1001), "1/9": (1, 9),
    str(OTHER_LONG): (OTHER_LONG, 1), f"-{OTHER_LONG}": (-OTHER_LONG, 1), f"1/{OTHER_LONG}": (1, OTHER_LONG),
    f"{LONG}/{OTHER_LONG}": (LONG, OTHER_LONG), f"-{OTHER_LONG}/{LONG}": (-OTHER_LONG, LONG),
}

NO_FRACTIONS = [
    "", " ", "-", "/", "1/", "/1", "-/2", "1/-2", "-1/-2", "1/1", "-1/1", "2/1", "0/1", "0/2", "-0/1", "-0", "+0", "+1", "--1",
    "+-1", "1/+2", "00", "01", "-01", "007", "1/02", "01/2", "-01/2", "1/0", "0/0", "-1/0", "1/00", "2/4", "3/3", "-2/4", "6/3",
    "4/2", "10/15", "1/2/3", "1//2", "1 /2", "1/ 2", "1 / 2", " 1", "1 ", " 1 ", "  ", "1 2", "- 1", "-1 ", "1_000", "1_0/3",
    "1.0", "1.5", "1e3", "0x1", "0b1", "1,000", "1,5", "a", "one", "-a", "1a", "a1", "1/a", "(1)", "(1/2)", "((1))", "1)", "(1",
    "[1]", "(1, 2)", "None", "True", "~", ";", "1;", "1:2", "1\\2", "'1'", "\"1\"", "=1", "1-", "1-2", "1/2-", "-1-",
    "\t1", "1\n", "\n", "1\t", "\u0661", "\u00b2", "\u00bd", "\u22121", "1\u2044" "2", "\uff11",
]


def pair(number):
    return (number.numerator, number.denominator)


def fractions(chance, count, figures):
    low, high = 10 ** (figures - 1), 10 ** figures
    return [pair(Fraction(chance.randrange(low, high), chance.randrange(low, high))) for place in range(count)]


def some_cord(beads, figures, seed):
    chance = random.Random(seed)
    return Cord(fractions(chance, beads + 1, figures), fractions(chance, beads, figures))


def written(number):
    """A fraction as the document tells it, by Python's own way of writing one."""
    return str(Fraction(*number))


class TextCase(unittest.TestCase):
    def check_refused(self, asked, thing):
        before = copy.deepcopy(thing)
        with self.subTest(asked=asked.__name__, thing=thing):
            with self.assertRaises(CordError) as caught:
                asked(thing)
            self.assertIs(type(caught.exception), NoText)
            self.assertEqual(thing, before)

    def check_fraction(self, told, answer):
        self.assertEqual(told, answer)
        self.assertEqual([type(told)] + [type(number) for number in told], [tuple, int, int])

    def check_row(self, told, answer):
        self.assertEqual(told, answer)
        self.assertIs(type(told), list)
        for part in told:
            self.assertEqual([type(part)] + [type(number) for number in part], [tuple, int, int])

    def check_text(self, told, answer):
        self.assertEqual(told, answer)
        self.assertIs(type(told), str)


class TestFraction(TextCase):
    def test_some(self):
        for text, one in FRACTIONS.items():
            with self.subTest(text):
                self.check_text(show_fraction(one), text)
                self.check_fraction(read_fraction(text), one)

    def test_there_and_back(self):
        chance = random.Random(400)
        for figures in (1, 2, 5, 29, 30):
            for top, bottom in fractions(chance, 20, figures):
                for one in ((top, bottom), (-top, bottom)):
                    self.check_text(show_fraction(one), written(one))
                    self.check_fraction(read_fraction(show_fraction(one)), one)

    def test_all_small_ones(self):
        """What is written in another way than it is shown is refused."""
        for top in range(-12, 13):
            self.check_fraction(read_fraction(str(top)), (top, 1))
            for bottom in range(13):
                text = f"{top}/{bottom}"
                if bottom > 1 and Fraction(top, bottom).denominator == bottom:
                    self.check_fraction(read_fraction(text), (top, bottom))
                else:
                    self.check_refused(read_fraction, text)

    def test_all_short_texts(self):
        signs = "-/013 +"
        some = [""]
        for length in range(4):
            some = [text + sign for text in some for sign in signs]
            for text in some:
                try:
                    number = Fraction(text)
                except (ValueError, ZeroDivisionError):
                    number = None
                if number is not None and str(number) == text:
                    self.check_fraction(read_fraction(text), pair(number))
                else:
                    self.check_refused(read_fraction, text)

    def test_refused(self):
        for text in NO_FRACTIONS:
            self.check_refused(read_fraction, text)

    def test_no_text(self):
        for thing in NO_TEXTS:
            self.check_refused(read_fraction, thing)

    def test_thirty_figures_and_more(self):
        nines = "9" * 30
        self.check_fraction(read_fraction(nines), (10 ** 30 - 1, 1))
        self.check_fraction(read_fraction("-" + nines), (1 - 10 ** 30, 1))
        self.check_fraction(read_fraction("1/" + nines), (1, 10 ** 30 - 1))
        self.check_fraction(read_fraction("-" + str(LONG) + "/" + nines), (-LONG, 10 ** 30 - 1))
        for text in (str(TOO_LONG), f"-{TOO_LONG}", f"1/{TOO_LONG}", f"-1/{TOO_LONG}", f"{TOO_LONG}/7", f"-{TOO_LONG}/7",
                     f"{TOO_LONG + 1}/{TOO_LONG}", "0" * 31, "0" + nines, "1" * 1000, "-" + "7" * 2999, "1/" + "3" * 2998,
                     "9" * 3000, "1" * 5000):
            self.check_refused(read_fraction, text)

    def test_shown_with_as_many_figures_as_needed(self):
        for figures in (31, 100, 400, 4000):
            self.check_text(show_fraction((10 ** figures - 1, 1)), "9" * figures)
            self.check_text(show_fraction((1 - 10 ** figures, 3 * 10 ** (figures - 1) + 7)),
                            "-" + "9" * figures + "/3" + "0" * (figures - 2) + "7")
        self.check_text(show_fraction((1, 10 ** 3999)), "1/1" + "0" * 3999)


class TestRow(TextCase):
    def test_none(self):
        self.check_text(show_row([]), "")
        self.check_row(read_row(""), [])

    def test_one(self):
        for text, one in FRACTIONS.items():
            self.check_text(show_row([one]), text)
            self.check_row(read_row(text), [one])

    def test_more(self):
        row, text = [(0, 1), (-1, 2), (3, 1), (0, 1), (0, 1)], "0 -1/2 3 0 0"
        self.check_text(show_row(row), text)
        self.check_row(read_row(text), row)
        self.check_row(row, [(0, 1), (-1, 2), (3, 1), (0, 1), (0, 1)])
        self.check_row(read_row("3/2 -1/2"), [(3, 2), (-1, 2)])
        whole = list(FRACTIONS.values())
        self.check_text(show_row(whole), " ".join(FRACTIONS))
        self.check_row(read_row(" ".join(FRACTIONS)), whole)

    def test_there_and_back(self):
        chance = random.Random(401)
        for count in range(31):
            for figures in (1, 30):
                row = [(chance.choice((-1, 1)) * top, bottom) for top, bottom in fractions(chance, count, figures)]
                self.check_text(show_row(row), " ".join(written(one) for one in row))
                self.check_row(read_row(show_row(row)), row)

    def test_polynomials(self):
        cord = Cord([(1, 1), (1, 2), (2, 1)], [(2, 1), (3, 1)])
        self.check_text(show_row(held(cord)), "7/2 -14 6")
        self.check_text(show_row(free(Cord([(1, 1)], []))), "")

    def test_blanks(self):
        for text in (" ", "  ", "1 ", " 1", "1  2", "1 2 ", " 1 2", "1   2", "1 2  ", "0 ", " 0 0"):
            self.check_refused(read_row, text)

    def test_a_fraction_that_is_none(self):
        for text in NO_FRACTIONS:
            if text in ("", "1 2"):
                continue
            self.check_refused(read_row, text)
            self.check_refused(read_row, f"1 {text}")
            self.check_refused(read_row, f"{text} 1")
            self.check_refused(read_row, f"1/2 {text} 3")
        for text in (f"1 {TOO_LONG}", f"1/{TOO_LONG} 1", f"0 -{TOO_LONG}", "1,2", "[1 2]", "1\n2", "1\t2", "1 ; 2"):
            self.check_refused(read_row, text)

    def test_no_text(self):
        for thing in NO_TEXTS:
            self.check_refused(read_row, thing)

    def test_told_is_the_askers_own(self):
        for text, row in (("", []), ("1 -1/2", [(1, 1), (-1, 2)])):
            told, kept = read_row(text), read_row(text)
            told.append((7, 9))
            self.assertEqual(kept, row)
            self.assertEqual(read_row(text), row)

    def test_three_thousand_signs(self):
        row = [(k % 7 - 3, 1) for k in range(1100)]
        text = show_row(row)
        self.assertLessEqual(len(text), 3000)
        self.check_row(read_row(text), row)


class TestCord(TextCase):
    def check(self, cord, text):
        before = (cord.gaps(), cord.weights())
        with self.subTest(text):
            self.check_text(show_cord(cord), text)
            self.assertEqual((cord.gaps(), cord.weights()), before)
            self.check_cord(read_cord(text), cord.gaps(), cord.weights())

    def check_cord(self, told, gaps, weights):
        self.assertIs(type(told), Cord)
        self.check_row(told.gaps(), gaps)
        self.check_row(told.weights(), weights)

    def test_of_the_document(self):
        self.check(Cord([(1, 1), (1, 2), (1, 1)], [(2, 1), (3, 1)]), "1 (2) 1/2 (3) 1")

    def test_no_bead_and_one(self):
        self.check(Cord([(3, 1)], []), "3")
        self.check(Cord([(3, 2)], []), "3/2")
        self.check(Cord([(3, 2), (1, 7)], [(5, 1)]), "3/2 (5) 1/7")
        self.check(Cord([(1, 1), (2, 1)], [(5, 3)]), "1 (5/3) 2")
        self.check(Cord([(OTHER_LONG, LONG), (LONG, OTHER_LONG)], [(1, OTHER_LONG)]),
                   f"{OTHER_LONG}/{LONG} (1/{OTHER_LONG}) {LONG}/{OTHER_LONG}")

    def test_there_and_back(self):
        for beads in range(13):
            for figures in (1, 2, 30):
                cord = some_cord(beads, figures, 402 + beads)
                words = [""] * (2 * beads + 1)
                words[::2] = [written(gap) for gap in cord.gaps()]
                words[1::2] = [f"({written(weight)})" for weight in cord.weights()]
                self.check(cord, " ".join(words))

    def test_longer_numbers_are_shown_and_not_read(self):
        cord = Cord([(TOO_LONG, 1), (1, 1)], [(1, 1)])
        self.check_text(show_cord(cord), f"{TOO_LONG} (1) 1")
        for text in (f"{TOO_LONG} (1) 1", f"1 ({TOO_LONG}) 1", f"1 (1) 1/{TOO_LONG}", f"1 (1/{TOO_LONG}) 1", str(TOO_LONG)):
            self.check_refused(read_cord, text)

    def test_a_word_too_few_or_too_many(self):
        for text in ("", "1 (2)", "(2)", "(2) 1", "1 (2) 1/2 (3)", "(2) 1/2 (3)", "(2) 1/2 (3) 1", "1 (2) (3) 1", "1 1/2 (3) 1",
                     "1 (2) 1 1", "1 (2) 1 1/2 (3) 1", "1 1", "1 1 (2) 1", "1 (2) 1 (3) (4) 1", "(1) (2) (3)", "1 (2) 1 (3) 1 1"):
            self.check_refused(read_cord, text)

    def test_brackets(self):
        for text in ("1 2 1", "1 (2 1", "1 2) 1", "1 (2)) 1", "1 ((2) 1", "1 ((2)) 1", "1 () 1", "1 ( 1", "1 ) 1", "1 )2( 1",
                     "1 [2] 1", "1 ( 2) 1", "1 (2 ) 1", "1 ( 2 ) 1", "1(2) 1", "1 (2)1", "1(2)1", "1 -(2) 1", "1 (2)/3 1",
                     "(1)", "(1) (2) 1", "1 (2) (1)", "(1) 2 (1)", "(1) (2) (1)", "1 (2) 1 3 1", "1 2 1 (3) 1", "(1 (2) 1)",
                     "1 (2 3) 1", "1 (2) (1/2) (3) 1", "1 {2} 1", "1 (2( 1", "1 )2) 1"):
            self.check_refused(read_cord, text)

    def test_not_above_nought(self):
        for text in ("0", "-1", "-1/2", "0 (1) 1", "1 (1) 0", "1 (0) 1", "1 (-1) 1", "-1 (1) 1", "1 (1) -1", "1 (-1/2) 1",
                     "1 (1) 0 (1) 1", "1 (1) 1 (0) 1", "1 (1) -1/3 (1) 1", "1 (-2) 1/2 (3) 1"):
            self.check_refused(read_cord, text)

    def test_twelve_and_thirteen_beads(self):
        twelve = " ".join(["1"] + ["(2) 1/3"] * 12)
        self.check(Cord([(1, 1)] + [(1, 3)] * 12, [(2, 1)] * 12), twelve)
        for beads in (13, 14, 25, 200):
            self.check_refused(read_cord, " ".join(["1"] + ["(2) 1/3"] * beads))

    def test_blanks(self):
        for text in (" ", "  ", " 1", "1 ", "1  (2) 1", "1 (2)  1", " 1 (2) 1", "1 (2) 1 ", "1 (2) 1  ", "1  (2)  1", "1   1"):
            self.check_refused(read_cord, text)

    def test_fractions_that_are_none(self):
        for text in NO_FRACTIONS:
            self.check_refused(read_cord, text)
            self.check_refused(read_cord, f"{text} (2) 1")
            self.check_refused(read_cord, f"1 (2) {text}")
            self.check_refused(read_cord, f"1 ({text}) 1")
            self.check_refused(read_cord, f"1 (2) {text} (3) 1")

    def test_no_text(self):
        for thing in NO_TEXTS:
            self.check_refused(read_cord, thing)

    def test_read_again_it_is_another_one(self):
        one, other = read_cord("1 (2) 1"), read_cord("1 (2) 1")
        one.gaps().clear()
        self.check_cord(other, [(1, 1), (1, 1)], [(2, 1)])
        self.check_cord(one, [(1, 1), (1, 1)], [(2, 1)])


class TestInterface(unittest.TestCase):
    def test_parameters(self):
        wanted = {"show_fraction": ["one"], "show_row": ["row"], "show_cord": ["cord"], "read_fraction": ["text"],
                  "read_row": ["text"], "read_cord": ["text"]}
        for name, parameters in wanted.items():
            with self.subTest(name):
                self.assertEqual(list(inspect.signature(getattr(texts, name)).parameters), parameters)


if __name__ == "__main__":
    unittest.main()
