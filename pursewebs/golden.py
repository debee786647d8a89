"""The bank numbers of the line of three, which follow the golden ratio."""

from math import isqrt

from pursewebs.whole import GREATEST, check_least, check_most, check_one_or_two, check_whole

MOST_START = 10 ** 6
MOST_PERIOD = 1000


def whole_root(number):
    """The greatest integer with a square of at most number."""
    check_whole(number)
    check_least(number, 0)
    return isqrt(number)


def golden_part(b):
    """The bank number against b of the stand 1 of the line with marks 1."""
    return (isqrt(5 * b * b) - b) // 2


def golden_number(mark, b, stand):
    """The bank number of the stand against b in the line of three with this mark."""
    check_whole(mark, b, stand)
    check_one_or_two(mark)
    check_least(b, 0)
    check_one_or_two(stand)
    check_most(b, GREATEST)
    if mark == 1:
        return golden_part(b) if stand == 1 else b + golden_part(b)
    part = golden_part(b + 1)
    return part + 1 if stand == 1 else b + part + 2


def repeats_until(start, period, rise):
    """The least b from start on at which the golden part does not grow by rise within the period."""
    check_whole(start, period, rise)
    check_least(start, 0)
    check_least(period, 1)
    check_most(start, MOST_START)
    check_most(period, MOST_PERIOD)
    b = start
    while golden_part(b + period) == golden_part(b) + rise:
        b += 1
    return b
