"""Rows of shares: whether an argument is one, and their low, high, part and mean at a stand."""

from pursewebs.checks import check_list
from pursewebs.errors import WrongKind
from pursewebs.share import Share


def check_share_list(shares):
    """Raise WrongKind if shares is no list of shares."""
    check_list(shares)
    for share in shares:
        if not isinstance(share, Share):
            raise WrongKind("a list of shares is asked for")


def lesser(one, two):
    """The lesser of two shares."""
    return one if one.compared(two) < 0 else two


def greater(one, two):
    """The greater of two shares."""
    return one if one.compared(two) > 0 else two


def low_share(web, shares, stand):
    """The least share over the first steps of a stand with steps."""
    steps = web.first[stand]
    least = shares[steps[0]]
    for step in steps[1:]:
        least = lesser(least, shares[step])
    return least


def high_share(web, shares, stand):
    """The greatest share over the second steps of a stand with steps."""
    steps = web.second[stand]
    most = shares[steps[0]]
    for step in steps[1:]:
        most = greater(most, shares[step])
    return most


def is_goal(web, stand):
    """True if the due of the stand is a number of chips."""
    return web.dues[stand] is not None and web.dues[stand][0] == "chips"


def part_of(web, stand):
    """The part of the stand, 0 or 1."""
    return 0 if is_goal(web, stand) else 1


def mean_of(web, shares, stand):
    """The mean of the share row at the stand, for right arguments."""
    if not web.first[stand]:
        return Share(1)
    low = low_share(web, shares, stand)
    high = high_share(web, shares, stand)
    if web.marks[stand] == 1:
        return (low + greater(low, high)).halved()
    return (lesser(low, high) + high).halved()
