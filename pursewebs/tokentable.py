"""Token tables: a finite list of token rows that tells the token row of a small even web at every k."""

from pursewebs.checks import check_even, check_floor, check_list, check_part_range, check_row_lists, check_small
from pursewebs.dues import slope_of
from pursewebs.errors import WrongKind
from pursewebs.prices import high_of, low_of
from pursewebs.sharerows import found_shares, slopes_of
from pursewebs.telling import told_row
from pursewebs.tokenpaper import token_ranks
from pursewebs.tokenrows import token_lifted
from pursewebs.web import check_web
from pursewebs.whole import GREATEST, check_least, check_most, check_size, check_whole, whole_list


def token_table(web):
    """The start, the period, the slopes and the rows of the least token table of a small even web."""
    check_web(web)
    check_even(web)
    check_small(web)
    period, single = slopes_of(found_shares(web))
    slopes = tuple([2 * slope for slope in single])
    rows = []
    row = token_lifted(web, 0, (0,) * web.size)
    passing = 0
    # Wanted are the rows of one period that all pass, and behind them a row that has grown by the slopes.
    while passing < period or row != grown(rows[-period], slopes):
        passing = passing + 1 if token_passes(web, len(rows), row, period, slopes) else 0
        rows.append(row)
        row = token_lifted(web, len(rows), row)
    return (len(rows) - period, period, slopes, tuple(rows))


def grown(row, slopes):
    """The row with its slope added at each stand."""
    return tuple([number + slopes[stand] for stand, number in enumerate(row)])


def token_passes(web, k, row, period, slopes):
    """True if the token row at k goes on by the slopes, as far as it alone can tell."""
    if web.greatest_due > k + 1:
        return False
    ranks, _ = token_ranks(web, k, row)
    for stand, pair in enumerate(ranks):
        most = 2 * slope_of(web.dues[stand], period)
        if not web.first[stand]:
            if slopes[stand] != most:
                return False
        elif not has_token_slope(web, slopes, stand, pair, most) or not keeps_token_order(web, row, slopes, stand):
            return False
    return True


def has_token_slope(web, slopes, stand, pair, most):
    """True if the slope of a stand with steps and these ranks is right, most being that of its due."""
    slope = slopes[stand]
    around = low_of(web, slopes, stand) + high_of(web, slopes, stand)
    if pair[1] == 0:
        return slope == most and 2 * slope <= around
    return 2 * slope == around and slope <= most and (pair[0] > 0 or slope == most)


def keeps_token_order(web, row, slopes, stand):
    """True if the steps with the least and with the greatest slope are far enough from all others in the row."""
    steps = web.first[stand]
    low = low_of(web, slopes, stand)
    high = high_of(web, slopes, stand)
    least = min([row[step] for step in steps if slopes[step] == low])
    most = max([row[step] for step in steps if slopes[step] == high])
    for step in steps:
        if slopes[step] != low and row[step] < least + 2:
            return False
        if slopes[step] != high and row[step] > most - 2:
            return False
    return True


def check_found(found):
    """Raise WrongKind if found is no list of the four parts of a token table."""
    check_list(found)
    if len(found) != 4:
        raise WrongKind("a token table has four parts")
    check_whole(found[0], found[1])
    whole_list(found[2])
    check_row_lists(found[3])


def token_told(web, found, k):
    """The row that the token table found tells at k."""
    check_web(web)
    check_found(found)
    check_whole(k)
    check_even(web)
    start, period, slopes, rows = found
    check_least(start, 0)
    check_least(period, 1)
    check_floor(slopes, web.size)
    check_size(rows, start + period)
    for at, row in enumerate(rows):
        check_part_range(row, web.size, 2 * at + 2)
    check_least(k, 0)
    check_most(k, GREATEST)
    return told_row(start, period, slopes, rows, k)
