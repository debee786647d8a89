"""The search for the least table of a small web."""

from pursewebs.falling import fallen_heights
from pursewebs.heights import Heights
from pursewebs.rises import lift_once
from pursewebs.sharerows import found_shares, slopes_of
from pursewebs.slopes import pass_breaks


def least_parts(web):
    """The start, the period, the slopes, the rows and the ranks of the least table of a small web.

    Number rows with the ranks of falling out are lower and upper. So a table of them is good as soon as
    the rows of one period pass, one behind the other.
    """
    period, slopes = slopes_of(found_shares(web))
    heights = Heights(web, [0] * web.size)
    rows = []
    ranks = []
    passing = 0
    while passing < period:
        k = len(rows)
        lift_once(web, k, heights)
        rows.append(heights.told())
        ranks.append(fallen_heights(web, k, heights)[0])
        passing = 0 if pass_breaks(web, k, rows[k], ranks[k], period, slopes) else passing + 1
    return (len(rows) - period, period, slopes, tuple(rows), tuple(ranks))
