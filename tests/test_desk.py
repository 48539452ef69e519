import copy
import inspect
import random
import unittest
from fractions import Fraction

from tautcord import desk
from tautcord.cords import Cord
from tautcord.desk import Desk
from tautcord.errors import CordError, NoBead, NoCord, NoName, NoText, NoWorth
from tautcord.spans import span
from tautcord.texts import read_cord, show_cord, show_row
from tautcord.tones import free, held, loose, near

LONG = 10 ** 29 + 319
OTHER_LONG = 10 ** 30 - 11
TOO_LONG = 10 ** 30

NO_TEXTS = [None, True, False, 0, 1, -1, LONG, [], (), ["show a"], ["show", "a"], ("show", "a"), ("show a",), [[[["show a"]]]],
            (((("show a",),),),), [None], (1, 2)]

NO_NAMES = ["A", "aB", "a1", "1", "1a", "a_b", "_", "a-b", "-", "abcdefghi", "abcdefghij", "a" * 100, "a.b", "(a)", ";", "a;", "~",
            "`", "{", "@", "[", "0", "1/2", "\u00e4", "\u0430", "\t", "a\n"]

NO_FRACTIONS = ["1/1", "2/4", "-0", "+1", "01", "1/0", "0/1", "x", "1/", "/2", "1.5", "(1)", "-", "--1", "1/-2", str(TOO_LONG),
                f"1/{TOO_LONG}", f"-{TOO_LONG}", "1/2/3", ";", "held", "a"]

NO_WHOLES = NO_FRACTIONS + ["1/2", "-1/2", "3/2", f"1/{LONG}"]

# Rows with which every cord that is asked for in the rows below stands.
STANDING = ["cord a 1 (2) 1/2 (3) 1", "cord b 1 (1) 1 (1) 1", "cord bare 3/2", "cord many 1" + " (1) 1" * 12]


def pair(number):
    return (number.numerator, number.denominator)


def fractions(chance, count, figures):
    low, high = 10 ** (figures - 1), 10 ** figures
    return [pair(Fraction(chance.randrange(low, high), chance.randrange(low, high))) for place in range(count)]


def some_cord(beads, figures, seed):
    chance = random.Random(seed)
    return Cord(fractions(chance, beads + 1, figures), fractions(chance, beads, figures))


class DeskCase(unittest.TestCase):
    def setUp(self):
        self.desk = Desk()
        for row in STANDING:
            self.check(row, "ok")

    def check(self, row, answer):
        with self.subTest(row):
            told = self.desk.say(row)
            self.assertEqual(told, answer)
            self.assertIs(type(told), str)

    def check_cord(self, name, text):
        self.check(f"show {name}", text)

    def stands(self):
        """What stands at the desk by the names that the tests use."""
        cords = []
        for name in ["a", "b", "c", "d", "bare", "many", "new", "x", "y", "z", "abcdefgh", "held", "loose", "ok", "cord", "free"]:
            try:
                cords.append((name, self.desk.say(f"show {name}")))
            except NoName:
                pass
        return cords

    def check_refused(self, error, row, place=None):
        before = copy.deepcopy(row)
        stood = self.stands()
        with self.subTest(row=row, error=error):
            with self.assertRaises(CordError) as caught:
                self.desk.say(row)
            self.assertIs(type(caught.exception), error)
            if error is NoCord:
                self.assertEqual(caught.exception.place, place)
            self.assertEqual(row, before)
            self.assertEqual(self.stands(), stood)


class TestCord(DeskCase):
    def test_some(self):
        self.check_cord("a", "1 (2) 1/2 (3) 1")
        self.check_cord("bare", "3/2")
        self.check_cord("many", "1" + " (1) 1" * 12)

    def test_long_numbers(self):
        text = show_cord(some_cord(12, 30, 500))
        self.check(f"cord z {text}", "ok")
        self.check_cord("z", text)

    def test_a_new_cord_in_the_place_of_an_old_one(self):
        self.check("cord a 5", "ok")
        self.check_cord("a", "5")
        self.check("cord a 5", "ok")
        self.check_cord("a", "5")
        self.check_cord("b", "1 (1) 1 (1) 1")

    def test_names(self):
        for name in ("z", "abcdefgh", "zzzzzzzz", "held", "loose", "near", "free", "cord", "show", "drop", "ok", "yes", "no", "find"):
            self.check(f"cord {name} 7 (1) 7", "ok")
            self.check_cord(name, "7 (1) 7")
            self.check(f"poly {name} loose", "1 -7")
            self.check(f"turn {name} {name}", "ok")
            self.check(f"drop {name}", "ok")

    def test_names_that_are_none(self):
        for name in NO_NAMES + [""]:
            self.check_refused(NoText, f"cord {name} 7 (1) 7")

    def test_cords_that_are_none(self):
        for text in ("", "0", "-1", "1/1", "1 (2)", "(2) 1", "1 2 1", "1 (0) 1", "1 (-1) 1", "1 (2) 0", "1 (2) 1 ", " 1 (2) 1",
                     "1  (2) 1", "1 (2) 1 (3)", "1 (2) 1 1", "(1)", "a", "1 (a) 1", str(TOO_LONG), f"1 ({TOO_LONG}) 1",
                     "1" + " (1) 1" * 13, "1 (2)1", "1 ((2)) 1", "1 () 1"):
            self.check_refused(NoText, f"cord a {text}")
            self.check_refused(NoText, f"cord new {text}")
        self.check_refused(NoText, "cord a")
        self.check_refused(NoText, "cord")
        self.check_refused(NoText, "cord 1 (2) 1")


class TestTurn(DeskCase):
    def test_some(self):
        self.check("cord a 1 (2) 1/2 (3) 7", "ok")
        self.check("turn new a", "ok")
        self.check_cord("new", "7 (3) 1/2 (2) 1")
        self.check_cord("a", "1 (2) 1/2 (3) 7")
        self.check("turn a a", "ok")
        self.check_cord("a", "7 (3) 1/2 (2) 1")
        self.check("turn b a", "ok")
        self.check_cord("b", "1 (2) 1/2 (3) 7")
        self.check("turn x bare", "ok")
        self.check_cord("x", "3/2")

    def test_what_is_done_later_to_the_old_one(self):
        self.check("turn new b", "ok")
        self.check("cord b 5", "ok")
        self.check_cord("new", "1 (1) 1 (1) 1")
        self.check("drop b", "ok")
        self.check_cord("new", "1 (1) 1 (1) 1")

    def test_refused(self):
        self.check_refused(NoName, "turn new x")
        self.check_refused(NoName, "turn a x")
        self.check_refused(NoName, "turn x x")
        for row in ("turn", "turn new", "turn new a b", "turn new a a", "turn new a 1", "turn new  a", "turn new a ", "turn  a"):
            self.check_refused(NoText, row)


class TestJoin(DeskCase):
    def test_some(self):
        self.check("join new a b", "ok")
        self.check_cord("new", "1 (2) 1/2 (3) 2 (1) 1 (1) 1")
        self.check("join new b a", "ok")
        self.check_cord("new", "1 (1) 1 (1) 2 (2) 1/2 (3) 1")
        self.check("join a a a", "ok")
        self.check_cord("a", "1 (2) 1/2 (3) 2 (2) 1/2 (3) 1")
        self.check("join x bare bare", "ok")
        self.check_cord("x", "3")
        self.check("join y bare many", "ok")
        self.check_cord("y", "5/2" + " (1) 1" * 12)
        self.check_cord("b", "1 (1) 1 (1) 1")

    def test_too_many_beads(self):
        self.check_refused(NoCord, "join new many a")
        self.check_refused(NoCord, "join new a many")
        self.check_refused(NoCord, "join many many many")

    def test_refused(self):
        for row in ("join new x a", "join new a x", "join new x y", "join a x x", "join new many x", "join new x many"):
            self.check_refused(NoName, row)
        for row in ("join", "join new", "join new a", "join new a b a", "join new a b ", "join  a b", "join new a  b"):
            self.check_refused(NoText, row)


class TestHeavier(DeskCase):
    def test_some(self):
        self.check("heavier new a 1 1/3", "ok")
        self.check_cord("new", "1 (7/3) 1/2 (3) 1")
        self.check("heavier new a 2 1", "ok")
        self.check_cord("new", "1 (2) 1/2 (4) 1")
        self.check_cord("a", "1 (2) 1/2 (3) 1")
        self.check("heavier a a 2 1/2", "ok")
        self.check_cord("a", "1 (2) 1/2 (7/2) 1")
        self.check(f"heavier many many 12 {LONG}/{OTHER_LONG}", "ok")
        self.check_cord("many", "1" + " (1) 1" * 11 + f" ({LONG + OTHER_LONG}/{OTHER_LONG}) 1")

    def test_no_such_bead(self):
        for bead in (0, -1, -2, 3, 13, LONG, -LONG):
            self.check_refused(NoBead, f"heavier new a {bead} 1")
            self.check_refused(NoBead, f"heavier a a {bead} 1")
            self.check_refused(NoBead, f"heavier a a {bead} -1")
            self.check_refused(NoBead, f"heavier a a {bead} 0")
        self.check_refused(NoBead, "heavier new bare 1 1")
        self.check_refused(NoBead, "heavier new bare 0 1")

    def test_not_above_nought(self):
        for more in ("0", "-1", "-1/2", f"-{LONG}"):
            self.check_refused(NoCord, f"heavier new a 1 {more}")
            self.check_refused(NoCord, f"heavier a a 2 {more}")

    def test_refused(self):
        for row in ("heavier new x 1 1", "heavier x x 1 1", "heavier a x 0 1", "heavier a x 1 0", "heavier a x 7 -1"):
            self.check_refused(NoName, row)
        for row in ("heavier", "heavier new", "heavier new a", "heavier new a 1", "heavier new a 1 1 1", "heavier new a 1 1 ",
                    "heavier new a  1", "heavier new 1 1", "heavier new a 1 1/2 a"):
            self.check_refused(NoText, row)


class TestLonger(DeskCase):
    def test_some(self):
        self.check("longer new a 0 1/3", "ok")
        self.check_cord("new", "4/3 (2) 1/2 (3) 1")
        self.check("longer new a 1 1/2", "ok")
        self.check_cord("new", "1 (2) 1 (3) 1")
        self.check_cord("a", "1 (2) 1/2 (3) 1")
        self.check("longer a a 2 1/2", "ok")
        self.check_cord("a", "1 (2) 1/2 (3) 3/2")
        self.check("longer bare bare 0 1/2", "ok")
        self.check_cord("bare", "2")

    def test_no_such_gap(self):
        for gap in (-1, -2, -3, 3, 13, LONG, -LONG):
            self.check_refused(NoBead, f"longer new a {gap} 1")
            self.check_refused(NoBead, f"longer a a {gap} 1")
            self.check_refused(NoBead, f"longer a a {gap} -1")
        self.check_refused(NoBead, "longer new bare 1 1")

    def test_not_above_nought(self):
        for more in ("0", "-1", "-1/2", f"-{LONG}"):
            self.check_refused(NoCord, f"longer new a 0 {more}")
            self.check_refused(NoCord, f"longer a a 2 {more}")

    def test_refused(self):
        for row in ("longer new x 1 1", "longer x x 1 1", "longer a x 9 1", "longer a x 1 0"):
            self.check_refused(NoName, row)
        for row in ("longer", "longer new", "longer new a", "longer new a 1", "longer new a 1 1 1", "longer new a 1 1 "):
            self.check_refused(NoText, row)


class TestFind(DeskCase):
    def test_of_the_document(self):
        self.check("find a 3/2 -1/2 ; 1 -1", "ok")
        self.check_cord("a", "1 (1) 1/2")

    def test_some(self):
        self.check("find new 3/2 ; 1", "ok")
        self.check_cord("new", "3/2")
        self.check("find new 7/2 -14 6 ; 1 -13/2 3", "ok")
        self.check_cord("new", "1 (2) 1/2 (3) 2")

    def test_noughts_at_the_end(self):
        for row in ("3/2 -1/2 0 ; 1 -1", "3/2 -1/2 ; 1 -1 0", "3/2 -1/2 0 0 ; 1 -1 0", "3/2 -1/2 0 ; 1 -1 0 0 0 0 0 0 0 0 0 0 0 0 0"):
            self.check("cord new 9", "ok")
            self.check(f"find new {row}", "ok")
            self.check_cord("new", "1 (1) 1/2")
        self.check("find new 3/2 0 ; 1 0", "ok")
        self.check_cord("new", "3/2")

    def test_there_and_back(self):
        for beads in range(13):
            cord = Cord([(1, 1 + place % 2) for place in range(beads + 1)], [(1 + place % 3, 1) for place in range(beads)])
            self.check(f"find new {show_row(held(cord))} ; {show_row(loose(cord))}", "ok")
            self.check_cord("new", show_cord(cord))

    def test_the_place_that_fails(self):
        for row, place in (("-1 ; 1", 0), ("1 1 ; 1 1", 1), ("1 -1 ; 1 -1", 1), ("3/2 1/2 ; 1 -1", 0), ("3/2 -1/2 ; 1 1", 0),
                           ("-3/2 -1/2 ; 1 -1", 1), ("2 -1 1 ; 1 -1 1", 1), ("2 -5/2 1 ; 1 -1/2 1", 2)):
            self.check_refused(NoCord, f"find new {row}", place)
            self.check_refused(NoCord, f"find a {row}", place)

    def test_no_ladder(self):
        for row in ("0 ; 1", "1 ; 0", "0 ; 0", "0 0 0 ; 0", "1 ; 2", "3/2 -1/2 ; 1", "3/2 ; 1 -1", "3/2 -1/2 ; 2 -1", "3/2 -1/2 ; 0 -1",
                    "3/2 0 ; 1 -1", "1" + " 1" * 13 + " ; 1" + " 1" * 13, "1" + " 1" * 29 + " ; 1" + " 1" * 29):
            self.check_refused(NoCord, f"find new {row}")

    def test_refused(self):
        for row in ("find", "find new", "find new ", "find new ;", "find new ; ", "find new ; 1", "find new 1 ;", "find new 1 ; ",
                    "find new  ; 1", "find new 1", "find new 1 1", "find new 1 ; 1 ; 1", "find new 1 ; ; 1", "find new ; 1 ; 1",
                    "find new 1 ; 1 ;", "find new 1; 1", "find new 1 ;1", "find new 1;1", "find new 1  ; 1", "find new 1 ;  1",
                    "find new 1 ; 1 ", "find new  1 ; 1", "find 1 ; 1", "find new 1 , 1", "find new ; ; ;", "find new 1 ;; 1",
                    "find new 1 : 1", "find new (1) ; 1"):
            self.check_refused(NoText, row)
        for number in NO_FRACTIONS:
            for row in (f"{number} ; 1", f"1 ; {number}", f"3/2 {number} ; 1 -1", f"3/2 -1/2 ; 1 {number}"):
                self.check_refused(NoText, f"find new {row}")


class TestEven(DeskCase):
    def test_some(self):
        self.check("even new 3/2", "ok")
        self.check_cord("new", "3/2")
        self.check("even a 3 1 3", "ok")
        self.check_cord("a", "1 (1) 1 (1) 1")
        self.check("even a 2 2", "ok")
        self.check_cord("a", "1 (1) 1")
        self.check("even a 4 1/2 2 3", "ok")
        self.check_cord("a", "1 (1) 1 (4/3) 1 (1) 1")

    def test_twelve_and_thirteen_worths(self):
        self.check("even new 1 " + " ".join(str(k) for k in range(1, 13)), "ok")
        self.assertEqual(read_cord(self.desk.say("show new")).beads(), 12)
        self.check_refused(NoWorth, "even new 1 " + " ".join(str(k) for k in range(1, 14)))
        self.check_refused(NoWorth, "even a 1 " + " ".join(str(k) for k in range(1, 31)))

    def test_no_such_cord(self):
        for row in ("0", "-1", "0 1", "-1/2 1 3", "3 3 1", "3 1 1", "3 0", "3 -1", "3 0 1", "3 -1 1", "1 0 0"):
            self.check_refused(NoWorth, f"even new {row}")
            self.check_refused(NoWorth, f"even a {row}")

    def test_refused(self):
        for row in ("even", "even new", "even new ", "even 3 1", "even new  ", "even new 1 ", "even new  1", "even new 3  1",
                    "even new 3 ; 1", "even new a"):
            self.check_refused(NoText, row)
        for number in NO_FRACTIONS:
            for row in (number, f"{number} 1", f"3 {number}", f"3 1 {number}", f"0 1 {number}"):
                self.check_refused(NoText, f"even new {row}")


class TestDrop(DeskCase):
    def test_some(self):
        self.check("drop a", "ok")
        self.check_refused(NoName, "show a")
        self.check_refused(NoName, "drop a")
        self.check_cord("b", "1 (1) 1 (1) 1")
        self.check("cord a 5", "ok")
        self.check_cord("a", "5")

    def test_refused(self):
        self.check_refused(NoName, "drop x")
        self.check_refused(NoName, "drop abcdefgh")
        for row in ("drop", "drop ", "drop a b", "drop a ", "drop  a", "drop a a", "drop A", "drop abcdefghi"):
            self.check_refused(NoText, row)


class TestShow(DeskCase):
    def test_refused(self):
        self.check_refused(NoName, "show x")
        self.check_refused(NoName, "show aa")
        self.check_refused(NoName, "show abcdefgh")
        for row in ("show", "show ", "show a b", "show a ", " show a", "show  a", "Show a", "SHOW a", "shows a", "show\ta", "showa"):
            self.check_refused(NoText, row)

    def test_told_again(self):
        for turn in range(3):
            self.check_cord("a", "1 (2) 1/2 (3) 1")


class TestPoly(DeskCase):
    def test_some(self):
        self.check("poly a held", "5/2 -15/2 3")
        self.check("poly a loose", "1 -13/2 3")
        self.check("poly a near", "1 -6 3")
        self.check("poly a free", "0 -5 3")

    def test_no_bead(self):
        for which, answer in (("held", "3/2"), ("loose", "1"), ("near", "1"), ("free", "")):
            self.check(f"poly bare {which}", answer)

    def test_long_numbers(self):
        cord = some_cord(12, 30, 501)
        self.check(f"cord z {show_cord(cord)}", "ok")
        for which, asked in (("held", held), ("loose", loose), ("near", near), ("free", free)):
            self.check(f"poly z {which}", show_row(asked(cord)))

    def test_refused(self):
        for which in ("held", "loose", "near", "free"):
            self.check_refused(NoName, f"poly x {which}")
        for which in ("", "Held", "far", "squares", "hel", "heldd", "held ", "held held", "h", "1", "heldloose", "held loose"):
            self.check_refused(NoText, f"poly a {which}")
            self.check_refused(NoText, f"poly x {which}")
        self.check_refused(NoText, "poly a")
        self.check_refused(NoText, "poly")


class TestCount(DeskCase):
    def test_some(self):
        for t, answer in (("-1", "0 0"), ("0", "0 0"), ("1/2", "0 0"), ("1", "0 1"), ("2", "1 1"), ("3", "1 2"), ("4", "2 2")):
            self.check(f"count b held {t}", answer)
        # The worths loose are 3/2 less, and 3/2 and, half the root of 5.
        for t, answer in (("-1", "0 0"), ("0", "0 0"), ("1/3", "0 0"), ("1/2", "1 1"), ("5/2", "1 1"), ("8/3", "2 2"), (str(LONG), "2 2")):
            self.check(f"count b loose {t}", answer)
        self.check("cord c 1 (1) 2", "ok")
        self.check("count c loose 1", "0 1")
        self.check("count c held 1", "0 0")
        self.check("count c held 3/2", "0 1")

    def test_no_bead(self):
        for end in ("held", "loose"):
            self.check(f"count bare {end} 1", "0 0")

    def test_twelve_beads(self):
        self.check(f"count many held {OTHER_LONG}", "12 12")
        self.check("count many loose 4", "12 12")

    def test_refused(self):
        self.check_refused(NoName, "count x held 1")
        self.check_refused(NoName, "count x loose -1")
        for end in ("near", "free", "Held", "", "1", "a"):
            self.check_refused(NoText, f"count a {end} 1")
            self.check_refused(NoText, f"count x {end} 1")
        for t in NO_FRACTIONS + [""]:
            self.check_refused(NoText, f"count a held {t}")
            self.check_refused(NoText, f"count x loose {t}")
        for row in ("count", "count a", "count a held", "count a 1", "count a held 1 1", "count a held 1 ", "count a 1 held"):
            self.check_refused(NoText, row)


class TestSpan(DeskCase):
    def test_some(self):
        self.check("span b held 1 0", "0 4")
        self.check("span b loose 1 0", "0 4")
        self.check("span b held 2 1", "2 4")
        self.check("span b held 2 2", "2 3")
        self.check("span b held 1 2", "0 1")
        self.check("cord c 1 (2) 1/2", "ok")
        self.check("span c held 1 0", "0 3/2")

    def test_each_number_of_halvings(self):
        cord = read_cord("1 (2) 1/2 (3) 1")
        for halvings in range(61):
            for end in ("held", "loose"):
                for k in (1, 2):
                    self.check(f"span a {end} {k} {halvings}", show_row(list(span(cord, end, k, halvings))))

    def test_no_such_worth(self):
        for k in (0, -1, -2, 3, 13, LONG, -LONG):
            for halvings in (0, 1, 60):
                self.check_refused(NoWorth, f"span a held {k} {halvings}")
                self.check_refused(NoWorth, f"span a loose {k} {halvings}")
        self.check_refused(NoWorth, "span bare held 1 3")

    def test_refused(self):
        self.check_refused(NoName, "span x held 1 1")
        self.check_refused(NoName, "span x held 0 60")
        for halvings in ("61", "-1", "100", str(LONG), f"-{LONG}", "060", "") + tuple(NO_WHOLES):
            self.check_refused(NoText, f"span a held 1 {halvings}")
            self.check_refused(NoText, f"span x held 1 {halvings}")
            self.check_refused(NoText, f"span a held 7 {halvings}")
        for k in NO_WHOLES + [""]:
            self.check_refused(NoText, f"span a held {k} 1")
        for end in ("near", "free", "Loose", "", "1"):
            self.check_refused(NoText, f"span a {end} 1 1")
        for row in ("span", "span a", "span a held", "span a held 1", "span a held 1 1 1", "span a held 1 1 ", "span a 1 held 1"):
            self.check_refused(NoText, row)


class TestMode(DeskCase):
    def test_some(self):
        self.check("mode b held 1", "1 1")
        self.check("mode b held 3", "1 -1")
        self.check("cord c 3/2 (5) 1/7", "ok")
        self.check("mode c held 23/15", "3/2")
        self.check("mode c loose 2/15", "3/2")

    def test_no_worth(self):
        for row in ("mode b held 2", "mode b held 0", "mode b held -1", "mode b loose 1", "mode b loose 3", f"mode b held {LONG}",
                    "mode bare held 1", "mode bare loose 0"):
            self.check_refused(NoWorth, row)

    def test_refused(self):
        self.check_refused(NoName, "mode x held 1")
        for end in ("near", "Held", "", "1"):
            self.check_refused(NoText, f"mode b {end} 1")
            self.check_refused(NoText, f"mode x {end} 1")
        for t in NO_FRACTIONS + [""]:
            self.check_refused(NoText, f"mode b held {t}")
            self.check_refused(NoText, f"mode x held {t}")
        for row in ("mode", "mode b", "mode b held", "mode b 1", "mode b held 1 1", "mode b held 1 "):
            self.check_refused(NoText, row)


class TestAlike(DeskCase):
    def test_some(self):
        self.check("cord c 1 (3) 1/2 (2) 1", "ok")
        self.check("alike a c held", "yes")
        self.check("alike c a held", "yes")
        self.check("alike a c loose", "no")
        self.check("cord d 2 (1) 1 (3/2) 7", "ok")
        self.check("alike a d loose", "yes")
        self.check("alike a d held", "no")
        for end in ("held", "loose"):
            self.check(f"alike a a {end}", "yes")
            self.check(f"alike a b {end}", "no")
            self.check(f"alike bare bare {end}", "yes")
            self.check(f"alike bare a {end}", "no")

    def test_refused(self):
        for row in ("alike x a held", "alike a x loose", "alike x y held", "alike x x held"):
            self.check_refused(NoName, row)
        for end in ("near", "free", "", "Held", "1", "yes"):
            self.check_refused(NoText, f"alike a b {end}")
            self.check_refused(NoText, f"alike x y {end}")
        for row in ("alike", "alike a", "alike a b", "alike a held", "alike a b held a", "alike a b held ", "alike held a b"):
            self.check_refused(NoText, row)


class TestRefusals(DeskCase):
    def test_no_text(self):
        for thing in NO_TEXTS:
            self.check_refused(NoText, thing)

    def test_rows_that_are_none(self):
        for row in ("", " ", "  ", "a", "ok", "help", "cut a 1", "sister a 1", "held a", "loose a", "Cord a 1", "cords a 1", "cord",
                    "\n", "show a\n", "cut new a 1", "new a", "length a", "beads a", "ladder 1 ; 1", "of new 1", ";", "1", "0", "-"):
            self.check_refused(NoText, row)

    def test_names_that_are_none(self):
        rows = ["cord {} 1", "turn {} a", "turn new {}", "join {} a b", "join new {} b", "join new a {}", "heavier {} a 1 1",
                "heavier new {} 1 1", "longer {} a 1 1", "longer new {} 1 1", "find {} 3/2 ; 1", "even {} 3/2", "drop {}", "show {}",
                "poly {} held", "count {} held 1", "span {} held 1 1", "mode {} held 1", "alike {} b held", "alike a {} held"]
        for name in NO_NAMES + [""]:
            for row in rows:
                self.check_refused(NoText, row.format(name))

    def test_numbers_that_are_none(self):
        for number in NO_WHOLES:
            for deed in ("heavier", "longer"):
                self.check_refused(NoText, f"{deed} new a {number} 1")
                self.check_refused(NoText, f"{deed} new x {number} 1")
        for number in NO_FRACTIONS:
            for deed in ("heavier", "longer"):
                self.check_refused(NoText, f"{deed} new a 1 {number}")
                self.check_refused(NoText, f"{deed} new x 1 {number}")
                # There is no such bead or gap either.
                self.check_refused(NoText, f"{deed} new a 7 {number}")

    def test_which_comes_first(self):
        for error, row in ((NoText, "turn A x"), (NoText, "turn new X"), (NoText, "join new x B"), (NoText, "join NEW x y"),
                           (NoText, "heavier new x 0 1/1"), (NoText, "heavier new x 1/2 0"), (NoText, "heavier new a 0 2/4"),
                           (NoText, "heavier N a 0 0"), (NoName, "heavier new x 0 0"), (NoBead, "heavier new a 0 0"),
                           (NoCord, "heavier new a 1 0"), (NoText, "longer new a 9 -0"), (NoName, "longer new x 9 0"),
                           (NoBead, "longer new a 9 0"), (NoCord, "longer new a 0 0"), (NoText, "find N 0 ; 1"),
                           (NoText, "find new 0 ; 1/1"), (NoText, "even N 0"), (NoText, "even new 0 1/1"), (NoText, "even new 3 3 1 +1"),
                           (NoText, "span x far 0 0"), (NoText, "span x held 0 61"), (NoText, "span a held 0 61"),
                           (NoName, "span x held 0 0"), (NoWorth, "span a held 0 0"), (NoText, "count x far 1"),
                           (NoText, "mode x held 1/1"), (NoText, "mode X held 1"), (NoName, "mode x held 2"), (NoText, "alike x y far"),
                           (NoText, "alike x Y held"), (NoText, "join new many MANY"), (NoName, "join new many x"),
                           (NoText, "drop x y"), (NoText, "show x y"), (NoText, "poly x far")):
            self.check_refused(error, row)

    def test_before_anything_stands(self):
        self.desk = Desk()
        for row in ("show a", "drop a", "turn b a", "join c a b", "heavier b a 1 1", "longer b a 0 1", "poly a held",
                    "count a held 1", "span a held 1 1", "mode a held 1", "alike a b held"):
            self.check_refused(NoName, row)
        self.assertEqual(self.stands(), [])

    def test_a_name_that_is_refused_does_not_stand_then(self):
        for row in ("find x 1 1 ; 1 1", "even x 0", "join x many many", "heavier x a 9 1", "cord x 0", "turn x y", "longer x a 0 0"):
            with self.assertRaises(CordError):
                self.desk.say(row)
            self.check_refused(NoName, "show x")


class TestDesks(DeskCase):
    def test_two_side_by_side(self):
        other = Desk()
        with self.assertRaises(NoName):
            other.say("show a")
        self.assertEqual(other.say("cord a 9"), "ok")
        self.assertEqual(other.say("cord only 8"), "ok")
        self.check_cord("a", "1 (2) 1/2 (3) 1")
        self.check_refused(NoName, "show only")
        self.assertEqual(other.say("drop a"), "ok")
        self.check_cord("a", "1 (2) 1/2 (3) 1")
        self.check("drop a", "ok")
        self.assertEqual(other.say("show only"), "8")

    def test_many_rows(self):
        """Cords made out of one another, again and again, as Python's own lists tell them."""
        chance = random.Random(502)
        known = {"a": read_cord("1 (2) 1/2 (3) 1"), "b": read_cord("1 (1) 1 (1) 1"), "bare": read_cord("3/2")}
        for turn in range(200):
            new = chance.choice("abcdefgh")
            old = chance.choice(sorted(known))
            more = chance.choice(["1", "1/2", "7/3"])
            gaps, weights = known[old].gaps(), known[old].weights()
            deed = chance.choice(["turn", "longer", "heavier"])
            if deed == "turn":
                self.check(f"turn {new} {old}", "ok")
                gaps, weights = gaps[::-1], weights[::-1]
            elif deed == "longer":
                gap = chance.randrange(len(gaps))
                self.check(f"longer {new} {old} {gap} {more}", "ok")
                gaps[gap] = pair(Fraction(*gaps[gap]) + Fraction(more))
            elif weights:
                bead = chance.randrange(len(weights))
                self.check(f"heavier {new} {old} {bead + 1} {more}", "ok")
                weights[bead] = pair(Fraction(*weights[bead]) + Fraction(more))
            else:
                self.check_refused(NoBead, f"heavier {new} {old} 1 {more}")
                continue
            known[new] = Cord(gaps, weights)
            for name, cord in known.items():
                self.check_cord(name, show_cord(cord))

    def test_parameters(self):
        self.assertEqual(list(inspect.signature(desk.Desk).parameters), [])
        self.assertEqual(list(inspect.signature(desk.Desk.say).parameters), ["self", "row"])


if __name__ == "__main__":
    unittest.main()
