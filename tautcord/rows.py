"""Rows told to a desk: a deed and the things it is done with, each read from its text."""

from tautcord.errors import NoText
from tautcord.polys import poly
from tautcord.texts import check_text, read_cord, read_fraction, read_row

LETTERS = "abcdefghijklmnopqrstuvwxyz"
LONGEST_NAME = 8
MOST_HALVINGS = 60

# Of each deed, what has to stand behind it: "new" is a name that a cord is given, "name" one by which
# a cord stands already. "cord", "length and worths" and "two polys" take up all words that are left.
FORMS = {
    "cord": ("new", "cord"),
    "turn": ("new", "name"),
    "join": ("new", "name", "name"),
    "heavier": ("new", "name", "whole", "fraction"),
    "longer": ("new", "name", "whole", "fraction"),
    "find": ("new", "two polys"),
    "even": ("new", "length and worths"),
    "drop": ("name",),
    "show": ("name",),
    "poly": ("name", "which"),
    "count": ("name", "end", "fraction"),
    "span": ("name", "end", "whole", "halvings"),
    "mode": ("name", "end", "fraction"),
    "alike": ("name", "name", "end"),
}


def read_told(row):
    check_text(row)
    deed = row.partition(" ")[0]
    if deed not in FORMS:
        raise NoText("there is no such deed")
    form = FORMS[deed]
    # The last text is the whole rest of the row. Where only one word is due there, its reading
    # refuses a blank in it.
    texts = row.split(" ", len(form))[1:]
    if len(texts) != len(form):
        raise NoText("the row has too few words")
    return (deed, [read_thing(kind, text) for kind, text in zip(form, texts)])


def kinds_of(deed):
    return FORMS[deed]


def read_thing(kind, text):
    if kind == "cord":
        return read_cord(text)
    if kind == "fraction":
        return read_fraction(text)
    if kind == "whole":
        return read_whole(text)
    if kind == "halvings":
        return read_halvings(text)
    if kind == "end":
        return read_choice(text, ("held", "loose"))
    if kind == "which":
        return read_choice(text, ("held", "loose", "near", "free"))
    if kind == "two polys":
        return read_two_polys(text)
    if kind == "length and worths":
        return read_some(text)
    return read_name(text)


def read_name(text):
    if len(text) < 1 or len(text) > LONGEST_NAME or not all([sign in LETTERS for sign in text]):
        raise NoText("a name has 1 to 8 letters from a to z")
    return text


def read_whole(text):
    one = read_fraction(text)
    if one[1] != 1:
        raise NoText("only a whole number can stand here")
    return one[0]


def read_halvings(text):
    halvings = read_whole(text)
    if halvings < 0 or halvings > MOST_HALVINGS:
        raise NoText("there are 0 to 60 halvings")
    return halvings


def read_choice(text, choices):
    if text not in choices:
        raise NoText("another word is due here")
    return text


def read_some(text):
    row = read_row(text)
    if len(row) == 0:
        raise NoText("one fraction at least is due here")
    return row


def read_two_polys(text):
    parts = text.split(" ; ")
    if len(parts) != 2:
        raise NoText("two polynomials with a ; between are due here")
    return [poly(read_some(part)) for part in parts]
