"""Worths of ends: the greatest worth of which the first hand can make sure."""

from pursewebs.checks import check_stand, check_state
from pursewebs.errors import WrongNumber
from pursewebs.rises import MOST_CHIPS, numbers_above, numbers_at
from pursewebs.serving import bought
from pursewebs.web import Web, check_web
from pursewebs.whole import check_least, check_most, check_range, check_size, check_whole, whole_list

MOST_WORTH = 1000
MOST_LISTED_STANDS = 6
MOST_LISTED_CHIPS = 8


def check_worth_kinds(web, worths):
    """Raise WrongKind if these are no web and no list of integers."""
    check_web(web)
    whole_list(worths)


def check_worths(web, worths):
    """Raise WrongNumber if these are no worths of the web."""
    check_size(worths, web.size)
    for stand, worth in enumerate(worths):
        check_range(worth, 0, MOST_WORTH)
        if worth > 0 and web.first[stand]:
            raise WrongNumber("a stand with steps has a worth")


def check_worth_chips(web, k, worths, most):
    """Raise what is wrong with a web, a k of at most most and worths."""
    check_worth_kinds(web, worths)
    check_whole(k)
    check_least(k, 0)
    check_worths(web, worths)
    check_most(k, most)


def web_of_level(web, worths, level):
    """The web of the worth level, for right arguments."""
    dues = [("chips", 0) if worth >= level else None for worth in worths]
    return Web(web.first, web.second, web.marks, dues)


def levels_of(worths):
    """The different worths from 1 on, ascending."""
    return sorted(set([worth for worth in worths if worth >= 1]))


def rows_of_levels(web, k, worths):
    """Each different worth from 1 on with the number row at k of the web of its worth level."""
    found = []
    row = (0,) * web.size
    for level in levels_of(worths):
        # The numbers never fall from level to level, so the row before is lower here.
        row = numbers_above(web_of_level(web, worths, level), k, row)
        found.append((level, row))
    return tuple(found)


def value_at(rows, stand, purse):
    """The greatest level whose row is reached at the stand, 0 if there is none."""
    return max([level for level, row in rows if row[stand] <= purse], default=0)


def level_web(web, worths, level):
    """The web of the worth level."""
    check_worth_kinds(web, worths)
    check_whole(level)
    check_worths(web, worths)
    check_least(level, 1)
    return web_of_level(web, worths, level)


def level_rows(web, k, worths):
    """Each different worth from 1 on with the number row at k of the web of its worth level."""
    check_worth_chips(web, k, worths, MOST_CHIPS)
    return rows_of_levels(web, k, worths)


def value(web, k, worths, stand, purse):
    """The value of the state."""
    whole_list(worths)
    check_state(web, k, stand, purse)
    check_worth_chips(web, k, worths, MOST_CHIPS)
    return found_value(web, k, worths, stand, purse)


def found_value(web, k, worths, stand, purse):
    """The value of a right state: the last level at which the purse reaches the number of the stand."""
    levels = [0] + levels_of(worths)
    low = 0
    high = len(levels)
    while high - low > 1:
        middle = (low + high) // 2
        if numbers_at(web_of_level(web, worths, levels[middle]), k)[stand] <= purse:
            low = middle
        else:
            high = middle
    return levels[low]


def stairs(web, k, worths, stand):
    """The purses at which the value of the stand is greater than at the purse before, and 0, with their values."""
    check_worth_kinds(web, worths)
    check_whole(k, stand)
    check_stand(web, stand)
    check_worth_chips(web, k, worths, MOST_CHIPS)
    rows = rows_of_levels(web, k, worths)
    purses = [0] + [row[stand] for _, row in rows if row[stand] <= k]
    return tuple([(purse, value_at(rows, stand, purse)) for purse in sorted(set(purses))])


def value_listing(web, k, worths):
    """For each stand and each purse the value, by its plain meaning."""
    check_worth_chips(web, k, worths, MOST_LISTED_CHIPS)
    check_most(web.size, MOST_LISTED_STANDS)
    values = tuple([(worth,) * (k + 1) for worth in worths])
    after = values_behind(web, k, values)
    while after != values:
        values = after
        after = values_behind(web, k, values)
    return values


def values_behind(web, k, values):
    """The values for one move more."""
    return tuple([stand_values(web, k, values, stand) if web.first[stand] else values[stand]
                  for stand in range(web.size)])


def stand_values(web, k, values, stand):
    """The values of a stand with steps for one move more."""
    gained = [max([values[step][purse] for step in web.first[stand]]) for purse in range(k + 1)]
    kept = [min([values[step][purse] for step in web.second[stand]]) for purse in range(k + 1)]
    mark = web.marks[stand]
    found = []
    for purse in range(k + 1):
        sure = [min([valued(mark, purse, p, q, (gained, kept)) for q in range(k - purse + 1)])
                for p in range(purse + 1)]
        found.append(max(sure))
    return tuple(found)


def valued(mark, purse, p, q, behind):
    """What these bids bring; behind tells it for each purse behind a move of the first and of the second hand."""
    hand, after = bought(mark, purse, p, q)
    return behind[hand - 1][after]
