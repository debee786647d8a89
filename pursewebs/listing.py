"""The levels of all states, listed by their plain meaning."""

from pursewebs.checks import check_state
from pursewebs.errors import WrongKind, WrongNumber
from pursewebs.prices import dues_at
from pursewebs.serving import bought
from pursewebs.web import check_web
from pursewebs.whole import check_least, check_most, check_whole

MOST_STANDS = 8
MOST_CHIPS = 12
ORDERS = ("sealed", "first", "second")


def check_listing_size(web, k):
    """Raise TooMuch if the web or k is too great for a listing."""
    check_most(web.size, MOST_STANDS)
    check_most(k, MOST_CHIPS)


def claimable(web, k):
    """Level 0: for each stand and each purse whether the first hand can claim."""
    return tuple([tuple([purse >= due for purse in range(k + 1)]) for due in dues_at(web, k)])


def level_behind(web, k, level, order):
    """The level behind this one."""
    claims = claimable(web, k)
    return tuple([stand_behind(web, k, level, order, stand, claims[stand]) for stand in range(web.size)])


def stand_behind(web, k, level, order, stand, claims):
    """What the level behind this one holds of a stand, whose claims are in level 0."""
    if not web.first[stand]:
        return claims
    gained = [[level[step][purse] for step in web.first[stand]] for purse in range(k + 1)]
    kept = [[level[step][purse] for step in web.second[stand]] for purse in range(k + 1)]
    open_to = ([any(row) for row in gained], [all(row) for row in kept])
    return tuple([claim or forced(web.marks[stand], k, purse, open_to, order) for purse, claim in enumerate(claims)])


def forced(mark, k, purse, open_to, order):
    """True if the first hand can force its way with this purse, when bids are made in this order.

    open_to tells for each purse whether it is good behind a move of the first and of the second hand.
    """
    if order == "second":
        for q in range(k - purse + 1):
            if not any([is_good(mark, purse, p, q, open_to) for p in range(purse + 1)]):
                return False
        return True
    for p in range(purse + 1):
        if all([is_good(mark, purse, p, q, open_to) for q in range(k - purse + 1)]):
            return True
    return False


def is_good(mark, purse, p, q, open_to):
    """True if these bids lead to where open_to is True."""
    hand, after = bought(mark, purse, p, q)
    return open_to[hand - 1][after]


def won_states(web, k, steps=None, *, order="sealed"):
    """For each stand and each purse whether the state is of the level steps, or of some level."""
    check_web(web)
    check_whole(k)
    if steps is not None:
        check_whole(steps)
    if not isinstance(order, str):
        raise WrongKind("an order is a string")
    check_least(k, 0)
    if steps is not None:
        check_least(steps, 0)
    if order not in ORDERS:
        raise WrongNumber("there is no such order")
    check_listing_size(web, k)
    level = claimable(web, k)
    after = level_behind(web, k, level, order)
    done = 0
    while after != level and (steps is None or done < steps):
        level = after
        after = level_behind(web, k, level, order)
        done += 1
    return level


def level_of(web, k, stand, purse):
    """The least level that the state is of, None if it is of none."""
    check_state(web, k, stand, purse)
    check_listing_size(web, k)
    level = claimable(web, k)
    after = level_behind(web, k, level, "sealed")
    done = 0
    while after != level and not level[stand][purse]:
        level = after
        after = level_behind(web, k, level, "sealed")
        done += 1
    return done if level[stand][purse] else None
