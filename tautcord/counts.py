"""Signs and turns of a row of fractions, and by them how many worths of a cord lie below a number."""

from tautcord.ratios import side
from tautcord.walks import walked


def signs(row):
    return [side(number) for number in row]


def turns(row):
    sides = [sign for sign in signs(row) if sign != 0]
    return len([sign for sign, behind in zip(sides, sides[1:]) if sign != behind])


def worths_below(cord, end, t):
    return turns(row_at(cord, end, t))


def up_to(cord, end, t):
    row = row_at(cord, end, t)
    # Its last one is 0 just where t itself is a worth.
    if side(row[-1]) == 0:
        return turns(row) + 1
    return turns(row)


def row_at(cord, end, t):
    steps = walked(cord, t)
    heights = [step[0] for step in steps[:-1]]
    if end == "held":
        return heights + [steps[-1][0]]
    return heights + [steps[-1][1]]
