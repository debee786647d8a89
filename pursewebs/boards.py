"""Two boards that are played at once."""

from pursewebs.errors import WrongKind, WrongNumber, WrongWeb
from pursewebs.web import Web, check_web
from pursewebs.webparts import MOST_STANDS
from pursewebs.whole import check_most, check_one_or_two, check_whole

GOALS = ("all", "any")


def check_board(web):
    """Raise WrongWeb if the web is no board."""
    for stand, due in enumerate(web.dues):
        if due is not None and (web.first[stand] or due != ("chips", 0)):
            raise WrongWeb("the web is no board")


def is_won(web, stand):
    """True if the stand of a board is a won end."""
    return web.dues[stand] is not None


def is_lost(web, stand):
    """True if the stand of a board is a lost end."""
    return not web.first[stand] and web.dues[stand] is None


def ends_pair(web, other, pair, goal):
    """True if the pair of stands is an end for the goal."""
    v, w = pair
    if not web.first[v] and not other.first[w]:
        return True
    if goal == "all":
        return is_lost(web, v) or is_lost(other, w)
    return is_won(web, v) or is_won(other, w)


def wins_pair(web, other, pair, goal):
    """True if a pair that is an end is won for the goal."""
    v, w = pair
    if goal == "all":
        return is_won(web, v) and is_won(other, w)
    return is_won(web, v) or is_won(other, w)


def pair_steps(ways, other_ways, pair):
    """The steps of one hand from a pair: on one of the two boards."""
    v, w = pair
    size = len(other_ways)
    return [x * size + w for x in ways[v]] + [v * size + y for y in other_ways[w]]


def both_boards(web, other, mark, goal):
    """The web of the pairs of stands of two boards."""
    check_web(web)
    check_web(other)
    check_whole(mark)
    if not isinstance(goal, str):
        raise WrongKind("a goal is a string")
    check_board(web)
    check_board(other)
    check_one_or_two(mark)
    if goal not in GOALS:
        raise WrongNumber("there is no such goal")
    check_most(web.size * other.size, MOST_STANDS)
    first = []
    second = []
    dues = []
    for pair in [(v, w) for v in range(web.size) for w in range(other.size)]:
        ended = ends_pair(web, other, pair, goal)
        first.append([] if ended else pair_steps(web.first, other.first, pair))
        second.append([] if ended else pair_steps(web.second, other.second, pair))
        dues.append(("chips", 0) if ended and wins_pair(web, other, pair, goal) else None)
    return Web(first, second, [mark] * len(dues), dues)
