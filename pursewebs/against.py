"""The purse that wins against a fixed number of chips of the second hand."""

from pursewebs.checks import check_stand
from pursewebs.rises import chip_rows
from pursewebs.web import check_web
from pursewebs.whole import check_least, check_most, check_whole

MOST_CHIPS = 2000


def purse_against(web, stand, other, most):
    """The least purse that wins at the stand against other chips, None if it is above most."""
    check_web(web)
    check_whole(stand, other, most)
    check_stand(web, stand)
    check_least(other, 0)
    check_least(most, 0)
    check_most(other, MOST_CHIPS)
    check_most(most, MOST_CHIPS)
    many = other + most + 1
    for k, row in zip(range(many), chip_rows(web)):
        if row[stand] <= k - other:
            return k - other
    return None
