"""The levels of all states with the token, listed by their plain meaning."""

from pursewebs.checks import check_even
from pursewebs.tokenmoves import bids_of, token_bought
from pursewebs.tokenrows import token_dues_at
from pursewebs.web import check_web
from pursewebs.whole import check_least, check_most, check_whole

MOST_STANDS = 8
MOST_CHIPS = 6


def token_level_behind(web, k, level):
    """The level behind this one. A level holds the one before it, so its states stay."""
    return tuple([stand_behind(web, k, level, stand) for stand in range(web.size)])


def stand_behind(web, k, level, stand):
    """What the level behind this one holds of a stand."""
    if not web.first[stand]:
        return level[stand]
    holdings = range(2 * k + 2)
    gained = [any([level[step][h] for step in web.first[stand]]) for h in holdings]
    kept = [all([level[step][h] for step in web.second[stand]]) for h in holdings]
    return tuple([level[stand][h] or token_forced(k, h, (gained, kept)) for h in holdings])


def token_forced(k, h, open_to):
    """True if some bid of the first hand leads to where open_to is True, whatever the second hand bids.

    open_to tells for each holding whether it is good behind a move of the first and of the second hand.
    """
    replies = bids_of(k, h, 2)
    for p, p_takes in bids_of(k, h, 1):
        if all([leads_well(h, p, p_takes, reply, open_to) for reply in replies]):
            return True
    return False


def leads_well(h, p, p_takes, reply, open_to):
    """True if these bids lead to where open_to is True."""
    hand, after = token_bought(h, p, p_takes, reply[0], reply[1])
    return open_to[hand - 1][after]


def token_won(web, k, steps=None):
    """For each stand and each holding whether the state is of the level steps, or of some level."""
    check_web(web)
    check_whole(k)
    if steps is not None:
        check_whole(steps)
    check_even(web)
    check_least(k, 0)
    if steps is not None:
        check_least(steps, 0)
    check_most(web.size, MOST_STANDS)
    check_most(k, MOST_CHIPS)
    level = tuple([tuple([h >= due for h in range(2 * k + 2)]) for due in token_dues_at(web, k)])
    after = token_level_behind(web, k, level)
    done = 0
    while after != level and (steps is None or done < steps):
        level = after
        after = token_level_behind(web, k, level)
        done += 1
    return level
