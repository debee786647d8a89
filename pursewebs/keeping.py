"""What the number row tells of one stand or state, and the keeping numbers."""

from pursewebs.checks import check_stand, check_state
from pursewebs.rises import MOST_CHIPS, numbers_at
from pursewebs.rounds import check_chips
from pursewebs.web import check_web
from pursewebs.whole import check_least, check_most, check_whole


def keep_row(web, k):
    """The keeping numbers of all stands."""
    check_chips(web, k, MOST_CHIPS)
    return tuple([k + 1 - number for number in numbers_at(~web, k)])


def number_of(web, k, stand):
    """The number of the stand at k."""
    check_web(web)
    check_whole(k, stand)
    check_least(k, 0)
    check_stand(web, stand)
    check_most(k, MOST_CHIPS)
    return numbers_at(web, k)[stand]


def whose(web, k, stand, purse):
    """The hand whose the state is."""
    check_state(web, k, stand, purse)
    check_most(k, MOST_CHIPS)
    return 1 if purse >= numbers_at(web, k)[stand] else 2
