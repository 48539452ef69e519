"""The desk: it keeps cords by names, and is told rows of words and answers them."""

from tautcord.changes import heavier, joined, longer
from tautcord.counts import up_to, worths_below
from tautcord.errors import NoName
from tautcord.found import cord_with, even
from tautcord.modes import mode
from tautcord.rows import kinds_of, read_told
from tautcord.sisters import alike
from tautcord.spans import span
from tautcord.texts import show_cord, show_row
from tautcord.tones import free, held, loose, near


class Desk:
    def __init__(self):
        self.kept = {}

    def say(self, row):
        order = read_told(row)
        deed = order[0]
        told = order[1]
        things = self.with_cords(kinds_of(deed), told)
        if deed == "drop":
            self.kept.pop(told[0])
            return "ok"
        if "new" in kinds_of(deed):
            # Made first, kept then: where it is refused, what stood by the name stays.
            cord = made(deed, things)
            self.kept[told[0]] = cord
            return "ok"
        return answer(deed, things)

    def with_cords(self, kinds, things):
        return [self.cord_by(thing) if kind == "name" else thing for kind, thing in zip(kinds, things)]

    def cord_by(self, name):
        if name not in self.kept:
            raise NoName("no cord stands by the name")
        return self.kept[name]


def made(deed, things):
    if deed == "turn":
        return things[1].turned()
    if deed == "join":
        return joined(things[1], things[2])
    if deed == "heavier":
        return heavier(things[1], things[2], things[3])
    if deed == "longer":
        return longer(things[1], things[2], things[3])
    if deed == "find":
        return cord_with(things[1][0], things[1][1])
    if deed == "even":
        return even(things[1][1:], things[1][0])
    return things[1]


def answer(deed, things):
    if deed == "show":
        return show_cord(things[0])
    if deed == "poly":
        return show_row(tone(things[0], things[1]))
    if deed == "count":
        return counted(things[0], things[1], things[2])
    if deed == "span":
        return show_row(list(span(things[0], things[1], things[2], things[3])))
    if deed == "mode":
        return show_row(mode(things[0], things[1], things[2]))
    return "yes" if alike(things[0], things[1], things[2]) else "no"


def tone(cord, which):
    if which == "held":
        return held(cord)
    if which == "loose":
        return loose(cord)
    if which == "near":
        return near(cord)
    return free(cord)


def counted(cord, end, t):
    below = worths_below(cord, end, t)
    most = up_to(cord, end, t)
    return f"{below} {most}"
