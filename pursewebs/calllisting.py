"""The states from which the first hand reaches so many visits, listed by their plain meaning."""

from pursewebs.callchecks import check_call_kinds, checked_calls
from pursewebs.listing import claimable, forced
from pursewebs.whole import check_least, check_most, check_whole

MOST_STANDS = 6
MOST_CHIPS = 6


def visit_level_behind(web, k, calls, level):
    """The set for one visit more than the one whose set is level: the least one that holds all that leads into it."""
    paid = claimable(web, k)
    found = tuple([(False,) * (k + 1) if web.first[stand] else paid[stand] for stand in range(web.size)])
    after = spread_once(web, k, calls, level, found)
    while after != found:
        found = after
        after = spread_once(web, k, calls, level, found)
    return found


def spread_once(web, k, calls, level, found):
    """The states that lead into level from calls, and into found from other stands; the ends are as in found."""
    told = []
    for stand in range(web.size):
        if web.first[stand]:
            told.append(leading(web, k, stand, level if stand in calls else found))
        else:
            told.append(found[stand])
    return tuple(told)


def leading(web, k, stand, level):
    """For each purse whether the first hand can force its way from the stand into level."""
    gained = [any([level[step][purse] for step in web.first[stand]]) for purse in range(k + 1)]
    kept = [all([level[step][purse] for step in web.second[stand]]) for purse in range(k + 1)]
    mark = web.marks[stand]
    return tuple([forced(mark, k, purse, (gained, kept), "sealed") for purse in range(k + 1)])


def call_won(web, k, calls, times=None):
    """For each stand and each purse whether the state is in the set for so many visits, or in the sets for all."""
    check_call_kinds(web, k, calls)
    if times is not None:
        check_whole(times)
        check_least(times, 0)
    stands = checked_calls(web, k, calls, MOST_CHIPS)
    check_most(web.size, MOST_STANDS)
    level = tuple([(True,) * (k + 1) for _ in range(web.size)])
    after = visit_level_behind(web, k, stands, level)
    done = 0
    while after != level and (times is None or done < times):
        level = after
        after = visit_level_behind(web, k, stands, level)
        done += 1
    return level
