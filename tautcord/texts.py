"""Fractions, lists of fractions and cords, written as texts and read again."""

from tautcord.cords import Cord
from tautcord.errors import NoCord, NoText
from tautcord.ratios import is_fraction

FIGURES = "0123456789"
MOST_FIGURES = 30


def show_fraction(one):
    top = one[0]
    bottom = one[1]
    if bottom == 1:
        return f"{top}"
    return f"{top}/{bottom}"


def show_row(row):
    return " ".join([show_fraction(one) for one in row])


def show_cord(cord):
    gaps = cord.gaps()
    words = [show_fraction(gaps[0])]
    for weight, gap in zip(cord.weights(), gaps[1:]):
        words.append("(" + show_fraction(weight) + ")")
        words.append(show_fraction(gap))
    return " ".join(words)


def read_fraction(text):
    check_text(text)
    parts = text.partition("/")
    top = parts[0]
    bottom = parts[2] if parts[1] == "/" else "1"
    if not are_figures(without_minus(top)) or not are_figures(bottom):
        raise NoText("a fraction is written in figures, at most 30 of them above and below")
    one = (int(top), int(bottom))
    # There is but one way to write a fraction: any other one is shown unlike what was read.
    if not is_fraction(one) or show_fraction(one) != text:
        raise NoText("the fraction is written otherwise")
    return one


def read_row(text):
    check_text(text)
    # A text without signs would be parted into one word.
    if text == "":
        return []
    return [read_fraction(word) for word in text.split(" ")]


def read_cord(text):
    check_text(text)
    words = text.split(" ")
    gaps = [read_fraction(word) for word in words[::2]]
    weights = [read_fraction(within_brackets(word)) for word in words[1::2]]
    try:
        return Cord(gaps, weights)
    except NoCord:
        raise NoText("the text is that of no cord") from None


def check_text(thing):
    if not isinstance(thing, str):
        raise NoText("only a text can be read")


def are_figures(text):
    if len(text) < 1 or len(text) > MOST_FIGURES:
        return False
    return all([sign in FIGURES for sign in text])


def without_minus(text):
    if text.startswith("-"):
        return text[1:]
    return text


def within_brackets(word):
    if not word.startswith("(") or not word.endswith(")"):
        raise NoText("a weight stands in brackets")
    return word[1:-1]
