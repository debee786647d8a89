"""Falling out of shares, which shows that a share row is the exact one."""

from pursewebs.share import Share
from pursewebs.shareparts import check_share_list, high_share, lesser, low_share, mean_of, part_of
from pursewebs.web import check_web
from pursewebs.whole import check_size


def check_share_row(web, shares):
    """Raise what is wrong with a web and a share row."""
    check_web(web)
    check_share_list(shares)
    check_size(shares, web.size)


def told_steps(web, shares, stand):
    """At a stand with steps: low against high, the first steps with low, the second steps with high."""
    low = low_share(web, shares, stand)
    high = high_share(web, shares, stand)
    firsts = [step for step in web.first[stand] if shares[step] == low]
    seconds = [step for step in web.second[stand] if shares[step] == high]
    return (low.compared(high), firsts, seconds)


def stays(mark, told, left):
    """True if a stand with steps stays left over in the round that begins with left.

    told are the told steps of the stand, left a dict of the stands left over.
    """
    order, firsts, seconds = told
    all_low = all([step in left for step in firsts])
    some_high = any([step in left for step in seconds])
    if mark == 1:
        return all_low and (order >= 0 or some_high)
    return some_high and (order > 0 or all_low)


def fallen_shares(web, shares):
    """The ranks and the rest of a right share row."""
    left = {stand: True for stand in range(web.size) if shares[stand].compared(part_of(web, stand)) != 0}
    ranks = [None if stand in left else 0 for stand in range(web.size)]
    told = {stand: told_steps(web, shares, stand) for stand in left if web.first[stand]}
    done = 0
    gone = leavers(web, told, left)
    while gone:
        done += 1
        for stand in gone:
            ranks[stand] = done
            del left[stand]
        gone = leavers(web, told, left)
    return (tuple(ranks), tuple(sorted(left)))


def leavers(web, told, left):
    """The stands left over that do not stay, told being the told steps of stands."""
    return [stand for stand in told if stand in left and not stays(web.marks[stand], told[stand], left)]


def share_rest(web, shares):
    """The ranks of the share row, with None at the stands of the rest, and the rest."""
    check_share_row(web, shares)
    return fallen_shares(web, shares)


def exact_shares(web, shares):
    """True if a right share row is exact."""
    for stand, share in enumerate(shares):
        if share.compared(0) < 0 or share != lesser(Share(part_of(web, stand)), mean_of(web, shares, stand)):
            return False
    return not fallen_shares(web, shares)[1]


def share_exact(web, shares):
    """True if the share row is exact."""
    check_share_row(web, shares)
    return exact_shares(web, shares)
