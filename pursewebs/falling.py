"""Falling out: the ranks of a row, and the stands that get none."""

from pursewebs.checks import check_row_at
from pursewebs.heights import Heights, stands_of
from pursewebs.lower import lower_breaks
from pursewebs.prices import dues_at
from pursewebs.whole import GREATEST, check_most


def fallen_out(web, k, row):
    """The ranks and the rest of a row of parts in 0 .. k+1."""
    return fallen_heights(web, k, Heights(web, row))


def fallen_heights(web, k, heights):
    """The same for the row that the Heights tell."""
    left = heights.below(dues_at(web, k))
    ranks = [None if left >> stand & 1 else 0 for stand in range(web.size)]
    for before, gone in enumerate(heights.leaving(left)):
        for stand in stands_of(gone):
            ranks[stand] = before + 1
    rest = tuple([stand for stand in range(web.size) if ranks[stand] is None])
    return (tuple(ranks), rest)


def falling(web, k, row):
    """The ranks of the row, with None at the stands of the rest, and the rest."""
    check_row_at(web, k, row)
    check_most(k, GREATEST)
    return fallen_out(web, k, row)


def is_exact(web, k, row):
    """True if the row is lower and its rest is empty, so that it is the number row."""
    check_row_at(web, k, row)
    check_most(k, GREATEST)
    return not lower_breaks(web, k, row) and not fallen_out(web, k, row)[1]
