"""Rounds of rows: the purses with which the first hand reaches one visit more."""

from pursewebs.callchecks import check_call_kinds, checked_calls, checked_row_calls
from pursewebs.heights import Heights
from pursewebs.prices import price_of
from pursewebs.rises import numbers_at
from pursewebs.web import Web
from pursewebs.whole import check_least, check_whole

MOST_CHIPS = 60


def round_of(web, k, calls, row):
    """The round of a right row at k.

    It is the number row of the web in which each call is an end that asks for its price at the row.
    """
    first = [() if stand in calls else steps for stand, steps in enumerate(web.first)]
    second = [() if stand in calls else steps for stand, steps in enumerate(web.second)]
    dues = []
    for stand, due in enumerate(web.dues):
        if stand in calls:
            dues.append(("chips", price_of(web, k, row, stand)))
        else:
            dues.append(None if web.first[stand] else due)
    return numbers_at(Web(first, second, web.marks, dues), k)


def free_stands(web, calls):
    """The stands with steps that are no calls."""
    return [stand for stand in web.moving if stand not in calls]


def parts_at(web, stands, part):
    """The row with this part at these stands and 0 at all other ones."""
    return [part if stand in stands else 0 for stand in range(web.size)]


def raise_to_round(web, k, calls, heights):
    """Make the row X_i, which the heights tell, the row X_(i+1).

    When some calls ask for 1 more, no stand grows by more than 1, and the free stands that never fall out grow.
    """
    wanted = [heights.price(stand) if stand in calls else 0 for stand in range(web.size)]
    tops = parts_at(web, free_stands(web, calls), k + 1)
    lifted = heights.below(wanted)
    while lifted:
        heights.lift(lifted | heights.staying(heights.below(tops), lifted))
        lifted = heights.below(wanted)


def each_visit_row(web, k, calls):
    """The rows X_0, X_1, .. up to the first one that equals its round."""
    row = (0,) * web.size
    yield row
    after = round_of(web, k, calls, row)
    heights = Heights(web, after)
    while after != row:
        row = after
        yield row
        raise_to_round(web, k, calls, heights)
        after = heights.told()


def round_row(web, k, calls, row):
    """The round of the row at k."""
    stands = checked_row_calls(web, k, calls, row, 1, MOST_CHIPS)
    return round_of(web, k, stands, row)


def visit_rows(web, k, calls):
    """The rows for one visit more each, up to the row for ever."""
    stands = checked_calls(web, k, calls, MOST_CHIPS)
    for row in each_visit_row(web, k, stands):
        yield row


def visits_needed(web, k, calls, times):
    """The row for this many visits."""
    check_whole(times)
    check_call_kinds(web, k, calls)
    check_least(times, 0)
    stands = checked_calls(web, k, calls, MOST_CHIPS)
    found = ()
    for done, row in enumerate(each_visit_row(web, k, stands)):
        found = row
        if done == times:
            break
    return found
