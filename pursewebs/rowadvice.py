"""What the plan of the number row tells the hand whose a state is."""

from pursewebs.falling import fallen_out
from pursewebs.plans import FirstPlan, SecondPlan
from pursewebs.slips import owner


def told_deed(web, k, row, stand, purse):
    """The hand whose the state is, and the bid and the step of its plan, row being the number row at k."""
    hand = owner(row, stand, purse)
    if hand == 1:
        ranks, _ = fallen_out(web, k, row)
        bid, step = FirstPlan(web, k, row, ranks)(stand, purse)
    else:
        bid, step = SecondPlan(web, k, row)(stand, purse)
    return (hand, bid, step)


def settled_advice(web, stand, purse, due):
    """The advice at a state where the first hand can claim or the play is over, None at any other one.

    due is what the purse has to reach there, None if that cannot be.
    """
    if due is not None and purse >= due:
        return (1, "claim")
    return None if web.first[stand] else (2, "over")
