"""What many calls ask of their arguments, in the order in which calls look at them."""

from pursewebs.errors import WrongWeb
from pursewebs.web import check_web
from pursewebs.whole import check_least, check_range, check_size, check_whole, whole_list


def check_stand(web, stand):
    """Raise WrongNumber if stand is no stand of the web."""
    check_range(stand, 0, web.size - 1)


def check_moving(web, stand):
    """Raise WrongWeb if the stand has no steps."""
    if not web.first[stand]:
        raise WrongWeb("a stand has no steps where steps are needed")


def check_part_range(row, size, most):
    """Raise WrongNumber if row is not of this size, with all parts in 0 .. most."""
    check_size(row, size)
    for part in row:
        check_range(part, 0, most)


def check_row_at(web, k, row):
    """Raise WrongKind, then WrongNumber, if these are no web, no k and no row of parts in 0 .. k+1."""
    check_web(web)
    check_whole(k)
    whole_list(row)
    check_least(k, 0)
    check_part_range(row, web.size, k + 1)


def check_state(web, k, stand, purse):
    """Raise WrongKind, then WrongNumber, if these are no web, no k and no state at k."""
    check_web(web)
    check_whole(k, stand, purse)
    check_state_range(web, k, stand, purse)


def check_state_range(web, k, stand, purse):
    """Raise WrongNumber if the integers are no k and no state at k."""
    check_least(k, 0)
    check_stand(web, stand)
    check_range(purse, 0, k)


def check_row_state(web, k, row, stand, purse):
    """Raise WrongKind, then WrongNumber, if these are no web, k, row of parts in 0 .. k+1 and state."""
    check_whole(stand, purse)
    check_row_at(web, k, row)
    check_state_range(web, k, stand, purse)
