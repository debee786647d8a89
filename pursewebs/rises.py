"""Rises: where the numbers grow when one chip more comes into play."""

from pursewebs.checks import check_part_range
from pursewebs.errors import TooMuch
from pursewebs.falling import fallen_out
from pursewebs.heights import Heights
from pursewebs.prices import dues_at
from pursewebs.web import check_web
from pursewebs.whole import GREATEST, check_least, check_most, check_whole, whole_list

MOST_CHIPS = 5000


def rise(web, k, row):
    """The rise of the row at k, a set of stands."""
    check_web(web)
    check_whole(k)
    whole_list(row)
    check_least(k, 0)
    check_part_range(row, web.size, k)
    check_most(k, GREATEST)
    # A stand may rise exactly if it never falls out: both ask for a price above its part.
    return fallen_out(web, k, row)[1]


def lift_once(web, k, heights):
    """Make the number row at k-1, or the row of zeros for k = 0, the number row at k."""
    heights.lift(heights.staying(heights.below(dues_at(web, k)), 0))


def chip_rows(web):
    """The number rows at k = 0, 1, 2, .."""
    check_web(web)
    heights = Heights(web, [0] * web.size)
    for k in range(MOST_CHIPS + 1):
        lift_once(web, k, heights)
        yield heights.told()
    raise TooMuch("the next row has too many chips")


def numbers_at(web, k):
    """The number row at a right k."""
    heights = Heights(web, [0] * web.size)
    for chips in range(k + 1):
        lift_once(web, chips, heights)
    return heights.told()


def numbers_above(web, k, row):
    """The number row at k, found from a lower row: its rest rises until there is none."""
    heights = Heights(web, row)
    dues = dues_at(web, k)
    risen = heights.staying(heights.below(dues), 0)
    while risen:
        heights.lift(risen)
        risen = heights.staying(heights.below(dues), 0)
    return heights.told()
