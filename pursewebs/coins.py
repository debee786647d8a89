"""Fair coins in the place of bids: parts, means, throw rows and chances."""

from pursewebs.checks import check_stand
from pursewebs.prices import high_of, low_of
from pursewebs.share import Share
from pursewebs.shareparts import check_share_list, is_goal, mean_of, part_of
from pursewebs.web import check_web
from pursewebs.whole import check_least, check_most, check_size, check_whole

MOST_THROWS = 60


def part(web, stand):
    """The part of the stand, 0 or 1."""
    check_web(web)
    check_whole(stand)
    check_stand(web, stand)
    return Share(part_of(web, stand))


def mean(web, shares, stand):
    """The mean of the share row at the stand."""
    check_web(web)
    check_share_list(shares)
    check_whole(stand)
    check_size(shares, web.size)
    check_stand(web, stand)
    return mean_of(web, shares, stand)


def check_throws(web, throws):
    """Raise what is wrong with a web and a number of throws."""
    check_web(web)
    check_whole(throws)
    check_least(throws, 0)
    check_most(throws, MOST_THROWS)


def as_shares(tops, throws):
    """The share row of these tops, each over 2 to the power throws."""
    return tuple([Share(top, 1 << throws) for top in tops])


def tops_thrown(web, tops, throws):
    """The next throw row, whose tops are over 2 to the power throws, from the one before it."""
    found = []
    for stand in range(web.size):
        whole = part_of(web, stand) << throws
        if web.first[stand]:
            low = low_of(web, tops, stand)
            high = high_of(web, tops, stand)
            # The bottom doubles with each throw, so the sum needs no halving to be the mean.
            whole = min(whole, low + max(low, high) if web.marks[stand] == 1 else min(low, high) + high)
        found.append(whole)
    return found


def throw_rows(web, throws):
    """The throw rows r_0 .. r_throws."""
    check_throws(web, throws)
    tops = [part_of(web, stand) for stand in range(web.size)]
    rows = [as_shares(tops, 0)]
    for done in range(1, throws + 1):
        tops = tops_thrown(web, tops, done)
        rows.append(as_shares(tops, done))
    return tuple(rows)


def tops_of_chance(web, tops, throws):
    """The next chance row, whose tops are over 2 to the power throws, from the one before it."""
    found = []
    for stand in range(web.size):
        if is_goal(web, stand):
            found.append(1 << throws)
        elif not web.first[stand]:
            found.append(0)
        else:
            best = max([tops[step] for step in web.first[stand]])
            worst = min([tops[step] for step in web.second[stand]])
            found.append(best + min(best, worst) if web.marks[stand] == 1 else worst + max(best, worst))
    return found


def coin_listing(web, throws):
    """The chance rows c_0 .. c_throws."""
    check_throws(web, throws)
    tops = [1 if is_goal(web, stand) else 0 for stand in range(web.size)]
    rows = [as_shares(tops, 0)]
    for done in range(1, throws + 1):
        tops = tops_of_chance(web, tops, done)
        rows.append(as_shares(tops, done))
    return tuple(rows)


def chance(web, stand, throws):
    """The chance of coming from the stand to a goal within this many moves."""
    check_web(web)
    check_whole(stand, throws)
    check_stand(web, stand)
    return 1 - throw_rows(web, throws)[throws][stand]
