"""The rounds that come down to the number row, and the number row."""

from pursewebs.prices import dues_at, next_of
from pursewebs.rises import MOST_CHIPS, numbers_at
from pursewebs.web import check_web
from pursewebs.whole import check_least, check_most, check_whole

MOST_ROUND_CHIPS = 400


def rounds(web, k):
    """The rows from that of the due numbers down to the number row."""
    check_chips(web, k, MOST_ROUND_CHIPS)
    row = dues_at(web, k)
    after = next_of(web, k, row)
    yield row
    while after != row:
        row = after
        yield row
        after = next_of(web, k, row)


def check_chips(web, k, most):
    """Raise what is wrong with a web and a k of at most most."""
    check_web(web)
    check_whole(k)
    check_least(k, 0)
    check_most(k, most)


def round_count(web, k):
    """The number of rounds."""
    count = -1
    for _ in rounds(web, k):
        count += 1
    return count


def number_row(web, k):
    """The number row at k."""
    check_chips(web, k, MOST_CHIPS)
    return numbers_at(web, k)
