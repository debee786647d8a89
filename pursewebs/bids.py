"""The told bids of both hands."""

from pursewebs.checks import check_moving, check_row_state
from pursewebs.prices import high_of, low_of
from pursewebs.whole import GREATEST, check_most


def told_first(web, row, stand, purse):
    """The told bid of the first hand, which may be above its purse, and its step."""
    low = low_of(web, row, stand)
    spare = 1 if web.marks[stand] == 1 else 0
    bid = max(0, high_of(web, row, stand) - purse - spare)
    return (bid, least_with(web.first[stand], row, low))


def told_second(web, row, stand, purse):
    """The told bid of the second hand, which may be above its chips, and its step."""
    high = high_of(web, row, stand)
    more = 1 if web.marks[stand] == 1 else 0
    bid = max(0, purse - low_of(web, row, stand) + more)
    return (bid, least_with(web.second[stand], row, high))


def least_with(steps, row, part):
    """The least of the steps at which the row has this part."""
    return min([step for step in steps if row[step] == part])


def least_lower(steps, ranks, rank):
    """The least of the steps of a rank below this one, the least of them if there is none."""
    lower = [step for step in steps if ranks[step] < rank]
    return min(lower) if lower else min(steps)


def lowest_step(web, row, ranks, stand, rank):
    """The least of the first steps with the least part of the row, one of a rank below this one if it can be."""
    least = low_of(web, row, stand)
    return least_lower([step for step in web.first[stand] if row[step] == least], ranks, rank)


def check_bid(web, k, row, stand, purse):
    """Raise what is wrong with the arguments of first_bid and second_bid."""
    check_row_state(web, k, row, stand, purse)
    check_moving(web, stand)
    check_most(k, GREATEST)


def first_bid(web, k, row, stand, purse):
    """The told bid of the first hand, at most its purse, and its step."""
    check_bid(web, k, row, stand, purse)
    bid, step = told_first(web, row, stand, purse)
    return (min(bid, purse), step)


def second_bid(web, k, row, stand, purse):
    """The told bid of the second hand, at most its chips, and its step."""
    check_bid(web, k, row, stand, purse)
    bid, step = told_second(web, row, stand, purse)
    return (min(bid, k - purse), step)
