"""States: what moves lead to, and where the play is over."""

from pursewebs.checks import check_state
from pursewebs.dues import due_at
from pursewebs.errors import WrongDeed
from pursewebs.serving import bought
from pursewebs.whole import GREATEST, check_most, check_range, check_whole


def state_behind(web, stand, purse, p, q, step):
    """The state behind the move, for bids that both hands have."""
    hand, after = bought(web.marks[stand], purse, p, q)
    steps = web.first[stand] if hand == 1 else web.second[stand]
    if step not in steps:
        raise WrongDeed("this is no step of the hand that gets the move")
    return (step, after)


def reaches_due(web, k, stand, purse):
    """True if the first hand can claim at a right state."""
    return purse >= due_at(web.dues[stand], k)


def settled_as(web, k, stand, purse):
    """How a right state is settled: 0 with steps, 1 or 2 at an end."""
    if web.first[stand]:
        return 0
    return 1 if reaches_due(web, k, stand, purse) else 2


def next_state(web, k, stand, purse, p, q, step):
    """The state behind the move."""
    check_whole(p, q, step)
    check_state(web, k, stand, purse)
    check_range(p, 0, purse)
    check_range(q, 0, k - purse)
    found = state_behind(web, stand, purse, p, q, step)
    check_most(k, GREATEST)
    return found


def can_claim(web, k, stand, purse):
    """True if the first hand can claim at the state."""
    check_state(web, k, stand, purse)
    check_most(k, GREATEST)
    return reaches_due(web, k, stand, purse)


def settled(web, k, stand, purse):
    """0 at a stand with steps; at an end the hand that has won or can win by a claim."""
    check_state(web, k, stand, purse)
    check_most(k, GREATEST)
    return settled_as(web, k, stand, purse)
