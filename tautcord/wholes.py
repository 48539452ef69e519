"""Whole numbers: what one is, and the greatest number that divides two of them."""


def is_whole(thing):
    # Python counts True and False among its ints; here they are no numbers.
    return isinstance(thing, int) and not isinstance(thing, bool)


def divisor(one, other):
    first = abs(one)
    second = abs(other)
    while second > 0:
        rest = first % second
        first = second
        second = rest
    return first
