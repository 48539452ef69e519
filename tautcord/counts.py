"""Signs and turns of a row of fractions, and by them how many worths of a cord lie below a number."""

from tautcord.ratios import side, times


def signs(row):
    return [side(number) for number in row]


def turns(row):
    sides = [sign for sign in signs(row) if sign != 0]
    return len([sign for sign, behind in zip(sides, sides[1:]) if sign != behind])


def worths_below(cord, end, t):
    return turns(row_at(cord, end, t))


def up_to(cord, end, t):
    row = row_at(cord, end, t)
    # Its last one is 0 just where t itself is a worth.
    if side(row[-1]) == 0:
        return turns(row) + 1
    return turns(row)


def row_at(cord, end, t):
    # Only the sides of the row are asked for. So the walk is kept in whole numbers, height and lean
    # as many times each, and never brought to lowest terms, which would take most of the time.
    gaps = cord.gaps()
    height = gaps[0][0]
    lean = gaps[0][1]
    row = []
    for weight, gap in zip(cord.weights(), gaps[1:]):
        row.append((height, 1))
        pull = times(t, weight)
        lean = pull[1] * lean - pull[0] * height
        height = gap[1] * pull[1] * height + gap[0] * lean
        lean = gap[1] * lean
    row.append((height if end == "held" else lean, 1))
    return row
