"""Low, high and price of a stand at a row, and the next row."""

from pursewebs.checks import check_moving, check_stand
from pursewebs.dues import due_at
from pursewebs.halves import half_of
from pursewebs.web import check_web
from pursewebs.whole import GREATEST, check_least, check_most, check_size, check_whole, whole_list


def low_of(web, row, stand):
    """The least part of the row over the first steps of a stand with steps."""
    return min([row[step] for step in web.first[stand]])


def high_of(web, row, stand):
    """The greatest part of the row over the second steps of a stand with steps."""
    return max([row[step] for step in web.second[stand]])


def price_of(web, k, row, stand):
    """The price, for right arguments."""
    if not web.first[stand]:
        return k + 1
    return half_of(web.marks[stand], low_of(web, row, stand), high_of(web, row, stand))


def dues_at(web, k):
    """The row of the due numbers at k."""
    return tuple([due_at(due, k) for due in web.dues])


def next_of(web, k, row):
    """The next row, for right arguments."""
    dues = dues_at(web, k)
    return tuple([min(due, price_of(web, k, row, stand)) for stand, due in enumerate(dues)])


def check_steps_at(web, row, stand):
    """Raise what is wrong with the arguments of low and high."""
    check_web(web)
    whole_list(row)
    check_whole(stand)
    check_size(row, web.size)
    check_stand(web, stand)
    check_moving(web, stand)


def low(web, row, stand):
    """The least part of the row over the first steps of the stand."""
    check_steps_at(web, row, stand)
    return low_of(web, row, stand)


def high(web, row, stand):
    """The greatest part of the row over the second steps of the stand."""
    check_steps_at(web, row, stand)
    return high_of(web, row, stand)


def price(web, k, row, stand):
    """The price of the stand at the row, K for an end."""
    check_web(web)
    check_whole(k, stand)
    whole_list(row)
    check_least(k, 0)
    check_size(row, web.size)
    check_stand(web, stand)
    check_most(k, GREATEST)
    return price_of(web, k, row, stand)


def next_row(web, k, row):
    """The next row at k, a tuple."""
    check_web(web)
    check_whole(k)
    whole_list(row)
    check_least(k, 0)
    check_size(row, web.size)
    check_most(k, GREATEST)
    return next_of(web, k, row)
