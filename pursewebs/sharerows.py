"""The share row of a small web, and lower share rows."""

from math import lcm

from pursewebs.checks import check_small
from pursewebs.coins import tops_thrown
from pursewebs.share import Share
from pursewebs.sharepaper import check_share_row, exact_shares
from pursewebs.shareparts import mean_of, part_of
from pursewebs.verdict import Verdict
from pursewebs.web import check_web


def share_row(web):
    """The share row of a small web."""
    check_web(web)
    check_small(web)
    return found_shares(web)


def found_shares(web):
    """The share row, found as the exact one near throw rows.

    A throw row comes near the share row from above, and the bottoms of shares are small. So from some
    row on the greatest fractions with small bottoms that are not above it are the shares.
    """
    most = 1 << len(web.moving)
    tops = [part_of(web, stand) for stand in range(web.size)]
    shares = tuple([Share(top) for top in tops])
    done = 0
    wanted = 1
    while not exact_shares(web, shares):
        while done < wanted:
            done += 1
            tops = tops_thrown(web, tops, done)
        shares = tuple([greatest_below(top, done, most) for top in tops])
        wanted = 2 * done
    return shares


def greatest_below(top, shift, most):
    """The greatest share with a bottom of at most most that is not above top over 2 to the power shift."""
    best_top = 0
    best_bottom = 1
    for bottom in range(1, most + 1):
        near = top * bottom >> shift
        if near * best_bottom > best_top * bottom:
            best_top = near
            best_bottom = bottom
    return Share(best_top, best_bottom)


def slopes_of(shares):
    """The least common bottom of some shares, and their tops over it."""
    period = 1
    for share in shares:
        period = lcm(period, share.bottom)
    return (period, tuple([share.top * (period // share.bottom) for share in shares]))


def share_lower(web, shares):
    """The Verdict of the stands at which the share row is not lower."""
    check_share_row(web, shares)
    found = []
    for stand, share in enumerate(shares):
        above = share.compared(part_of(web, stand)) > 0 or share.compared(mean_of(web, shares, stand)) > 0
        if above or share.compared(0) < 0:
            found.append(stand)
    return Verdict(found)
