"""What marks mean for the numbers of a web."""

from pursewebs.builders import with_marks
from pursewebs.falling import fallen_out
from pursewebs.rises import MOST_CHIPS, numbers_at
from pursewebs.rounds import check_chips


def mark_range(web, k):
    """The number rows of the web with all marks 1 and with all marks 2."""
    check_chips(web, k, MOST_CHIPS)
    return (numbers_at(with_marks(web, 1), k), numbers_at(with_marks(web, 2), k))


def marks_matter(web, k):
    """The stands where marks matter at k."""
    check_chips(web, k, MOST_CHIPS)
    one = numbers_at(with_marks(web, 1), k)
    return fallen_out(with_marks(web, 2), k, one)[1]
