"""What many calls ask of their arguments, in the order in which calls look at them."""

from pursewebs.errors import WrongKind, WrongWeb
from pursewebs.web import check_web
from pursewebs.whole import check_least, check_most, check_range, check_size, check_whole, whole_list

MOST_SMALL_STANDS = 10
MOST_SMALL_MOVING = 6
MOST_SMALL_DUE = 9


def check_stand(web, stand):
    """Raise WrongNumber if stand is no stand of the web."""
    check_range(stand, 0, web.size - 1)


def check_moving(web, stand):
    """Raise WrongWeb if the stand has no steps."""
    if not web.first[stand]:
        raise WrongWeb("a stand has no steps where steps are needed")


def check_even(web):
    """Raise WrongWeb if the web is not even."""
    if not web.even:
        raise WrongWeb("an even web is asked for")


def check_small(web):
    """Raise TooMuch if the web is not small."""
    check_most(web.size, MOST_SMALL_STANDS)
    check_most(len(web.moving), MOST_SMALL_MOVING)
    check_most(web.greatest_due, MOST_SMALL_DUE)


def check_list(thing):
    """Raise WrongKind if thing is no list."""
    if not isinstance(thing, (list, tuple)):
        raise WrongKind("a list is asked for")


def check_row_lists(rows):
    """Raise WrongKind if rows is no list of lists of integers."""
    check_list(rows)
    for row in rows:
        whole_list(row)


def check_floor(row, size):
    """Raise WrongNumber if row is not of this size, with all parts from 0 on."""
    check_size(row, size)
    for part in row:
        check_least(part, 0)


def check_part_range(row, size, most):
    """Raise WrongNumber if row is not of this size, with all parts in 0 .. most."""
    check_size(row, size)
    for part in row:
        check_range(part, 0, most)


def check_row_at(web, k, row):
    """Raise WrongKind, then WrongNumber, if these are no web, no k and no row of parts in 0 .. k+1."""
    check_web(web)
    check_whole(k)
    whole_list(row)
    check_least(k, 0)
    check_part_range(row, web.size, k + 1)


def check_state(web, k, stand, purse):
    """Raise WrongKind, then WrongNumber, if these are no web, no k and no state at k."""
    check_web(web)
    check_whole(k, stand, purse)
    check_state_range(web, k, stand, purse)


def check_state_range(web, k, stand, purse):
    """Raise WrongNumber if the integers are no k and no state at k."""
    check_least(k, 0)
    check_stand(web, stand)
    check_range(purse, 0, k)


def check_row_state(web, k, row, stand, purse):
    """Raise WrongKind, then WrongNumber, if these are no web, k, row of parts in 0 .. k+1 and state."""
    check_whole(stand, purse)
    check_row_at(web, k, row)
    check_state_range(web, k, stand, purse)
