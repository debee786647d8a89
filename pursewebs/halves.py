"""The half of two integers, rounded by a mark."""

from pursewebs.whole import check_one_or_two, check_whole


def half_of(mark, x, y):
    """The half, for a right mark and two integers."""
    if mark == 1:
        return (x + max(x, y)) // 2
    return (min(x, y) + y + 1) // 2


def half(mark, x, y):
    """The half of x and y at a stand with this mark."""
    check_whole(mark, x, y)
    check_one_or_two(mark)
    return half_of(mark, x, y)
