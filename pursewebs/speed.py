"""How fast throw rows come near the shares, and how near two shares can be."""

from pursewebs.coins import check_throws
from pursewebs.share import Share
from pursewebs.web import check_web


def speed_bound(web, throws):
    """What a throw row of a small web differs by from the share row at most."""
    check_throws(web, throws)
    moving = len(web.moving)
    if moving == 0:
        return Share(0)
    bound = Share(1)
    for _ in range(throws // moving):
        bound = bound * (1 - gap_of(web))
    return bound


def gap_of(web):
    """What two unlike shares of a small web differ by at least."""
    return Share(1, 1 << len(web.moving))


def gap_bound(web):
    """The share 1 over 2 to the power of the number of stands with steps."""
    check_web(web)
    return gap_of(web)
