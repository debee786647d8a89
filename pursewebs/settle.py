"""Settling: the first hand keeps the visits and the ends from the second hand."""

from pursewebs.callchecks import checked_calls
from pursewebs.forever import row_for_ever
from pursewebs.visits import MOST_CHIPS


def settle_row(web, k, calls):
    """The settling numbers of all stands."""
    stands = checked_calls(web, k, calls, MOST_CHIPS)
    return tuple([k + 1 - number for number in row_for_ever(~web, k, stands)])
