"""Words of rises: at which k the number of a stand grows."""

from pursewebs.checks import check_stand
from pursewebs.rises import chip_rows
from pursewebs.web import check_web
from pursewebs.whole import check_least, check_most, check_whole

MOST_PARTS = 5000


def first_numbers(web, stand, many):
    """The numbers of the stand at k = 0 .. many-1."""
    return [row[stand] for _, row in zip(range(many), chip_rows(web))]


def word(web, stand, many):
    """The parts 0 .. many-1 of the word of the stand."""
    check_web(web)
    check_whole(stand, many)
    check_stand(web, stand)
    check_least(many, 0)
    check_most(many, MOST_PARTS)
    numbers = first_numbers(web, stand, many)
    return tuple([number - (numbers[k - 1] if k > 0 else 0) for k, number in enumerate(numbers)])


def ones(web, stand, start, many):
    """The sum of the parts start .. start+many-1 of the word of the stand."""
    check_web(web)
    check_whole(stand, start, many)
    check_stand(web, stand)
    check_least(start, 0)
    check_least(many, 0)
    check_most(start + many, MOST_PARTS)
    # The sum of the parts below k is the number at k-1.
    numbers = [0] + first_numbers(web, stand, start + many)
    return numbers[start + many] - numbers[start]
