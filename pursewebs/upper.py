"""Upper rows, which show with ranks from above where the number row is."""

from pursewebs.checks import check_floor, check_row_at
from pursewebs.prices import dues_at, price_of
from pursewebs.verdict import Verdict
from pursewebs.whole import GREATEST, check_most, whole_list


def check_ranked(web, k, row, ranks):
    """Raise what is wrong with a web, a k, a row of parts in 0 .. k+1 and its ranks."""
    whole_list(ranks)
    check_row_at(web, k, row)
    check_floor(ranks, web.size)
    check_most(k, GREATEST)


def raised_from(row, ranks, rank):
    """The row with 1 more at each stand of this rank or more."""
    return [part + 1 if ranks[stand] >= rank else part for stand, part in enumerate(row)]


def upper_breaks(web, k, row, ranks):
    """The stands at which a row of parts in 0 .. k+1 with its ranks is not upper."""
    dues = dues_at(web, k)
    found = []
    for stand, rank in enumerate(ranks):
        need = price_of(web, k, raised_from(row, ranks, rank), stand) if rank > 0 else dues[stand]
        if row[stand] < need:
            found.append(stand)
    return found


def upper_faults(web, k, row, ranks):
    """The Verdict of the stands at which the row with the ranks is not upper."""
    check_ranked(web, k, row, ranks)
    return Verdict(upper_breaks(web, k, row, ranks))
