"""Ties that the hands have in turns, as a lamp shows."""

from pursewebs.checks import check_even
from pursewebs.rises import MOST_CHIPS, numbers_at
from pursewebs.web import Web, check_web
from pursewebs.whole import check_least, check_most, check_whole

MOST_STANDS = 30


def web_with_lamp(web):
    """The lamp web of an even web: stand 2*v is v while the lamp shows 1, stand 2*v+1 while it shows 2."""
    ways = []
    dues = []
    for stand in range(web.size):
        ways.append([2 * step + 1 for step in web.first[stand]])
        ways.append([2 * step for step in web.first[stand]])
        dues.extend([web.dues[stand]] * 2)
    return Web(ways, ways, [1, 2] * web.size, dues)


def lamp_web(web):
    """The lamp web of an even web."""
    check_web(web)
    check_even(web)
    check_most(web.size, MOST_STANDS)
    return web_with_lamp(web)


def turn_rows(web, k):
    """The two turn rows, that with the lamp showing 1 first."""
    check_web(web)
    check_whole(k)
    check_even(web)
    check_least(k, 0)
    check_most(web.size, MOST_STANDS)
    check_most(k, MOST_CHIPS)
    row = numbers_at(web_with_lamp(web), k)
    return (row[::2], row[1::2])
