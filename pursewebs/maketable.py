"""How far behind the start of the least table can be."""

from pursewebs.checks import check_small
from pursewebs.sharerows import found_shares, slopes_of
from pursewebs.web import check_web


def start_bound(web):
    """An integer that the start of the least table of a small web is not above."""
    check_web(web)
    check_small(web)
    period, _ = slopes_of(found_shares(web))
    return period * ((2 << len(web.moving)) + 4 * web.greatest_due)
