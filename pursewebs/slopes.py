"""Slopes: how numbers go on to grow, and rows that pass on to the next period."""

from pursewebs.checks import check_floor, check_stand
from pursewebs.dues import slope_of
from pursewebs.prices import high_of, low_of
from pursewebs.verdict import Verdict
from pursewebs.web import check_web
from pursewebs.whole import GREATEST, check_least, check_most, check_whole, whole_list


def price_twice(web, m, slopes, stand):
    """Twice the slope price, for right arguments."""
    if not web.first[stand]:
        return 2 * m
    low = low_of(web, slopes, stand)
    high = high_of(web, slopes, stand)
    if web.marks[stand] == 1:
        return low + max(low, high)
    return min(low, high) + high


def slope_price_twice(web, m, slopes, stand):
    """Twice the slope price of the stand."""
    check_web(web)
    check_whole(m, stand)
    whole_list(slopes)
    check_least(m, 1)
    check_floor(slopes, web.size)
    check_stand(web, stand)
    return price_twice(web, m, slopes, stand)


def has_right_slope(web, m, slopes, rank, stand):
    """True if (b) of passing holds at the stand of this rank."""
    twice = price_twice(web, m, slopes, stand)
    due = slope_of(web.dues[stand], m)
    if rank == 0:
        return slopes[stand] == due and 2 * slopes[stand] <= twice
    return 2 * slopes[stand] == twice and slopes[stand] <= due


def keeps_order(web, row, slopes, stand):
    """True if (c) of passing holds at a stand with steps."""
    low = low_of(web, row, stand)
    high = high_of(web, row, stand)
    low_slope = low_of(web, slopes, stand)
    high_slope = high_of(web, slopes, stand)
    for step in web.first[stand]:
        if row[step] == low and slopes[step] != low_slope:
            return False
    for step in web.second[stand]:
        if row[step] == high and slopes[step] != high_slope:
            return False
    if low_slope < high_slope:
        return low < high
    return low_slope == high_slope or low > high


def pass_breaks(web, k, row, ranks, m, slopes):
    """The stands at which the row with ranks does not pass, for right arguments."""
    if web.greatest_due > k + 1:
        return list(range(web.size))
    found = []
    for stand, rank in enumerate(ranks):
        ordered = not web.first[stand] or keeps_order(web, row, slopes, stand)
        if not ordered or not has_right_slope(web, m, slopes, rank, stand):
            found.append(stand)
    return found


def pass_faults(web, k, row, ranks, m, slopes):
    """The Verdict of the stands at which the row with ranks does not pass."""
    check_web(web)
    check_whole(k, m)
    for numbers in (row, ranks, slopes):
        whole_list(numbers)
    check_least(k, 0)
    check_least(m, 1)
    for numbers in (row, ranks, slopes):
        check_floor(numbers, web.size)
    check_most(k, GREATEST)
    return Verdict(pass_breaks(web, k, row, ranks, m, slopes))
