"""Lower rows, which show from below where the number row is."""

from pursewebs.checks import check_part_range, check_row_at, check_row_lists
from pursewebs.errors import WrongNumber
from pursewebs.prices import next_of
from pursewebs.verdict import Verdict
from pursewebs.web import check_web
from pursewebs.whole import GREATEST, check_least, check_most, check_whole


def lower_breaks(web, k, row):
    """The stands at which a row of parts in 0 .. k+1 is above its next row."""
    after = next_of(web, k, row)
    return [stand for stand, part in enumerate(row) if part > after[stand]]


def lower_faults(web, k, row):
    """The Verdict of the stands at which the row is not lower."""
    check_row_at(web, k, row)
    check_most(k, GREATEST)
    return Verdict(lower_breaks(web, k, row))


def joined_lower(web, k, rows):
    """At each stand the greatest part of some lower rows."""
    check_web(web)
    check_whole(k)
    check_row_lists(rows)
    check_least(k, 0)
    check_least(len(rows), 1)
    for row in rows:
        check_part_range(row, web.size, k + 1)
        if lower_breaks(web, k, row):
            raise WrongNumber("a row is not lower")
    check_most(k, GREATEST)
    return tuple([max([told[stand] for told in rows]) for stand in range(web.size)])
