"""Why a state is a hand's, and what a bid at it costs."""

from pursewebs.checks import check_moving, check_state
from pursewebs.errors import WrongDeed
from pursewebs.prices import high_of, low_of
from pursewebs.rises import MOST_CHIPS, numbers_at
from pursewebs.rowadvice import told_deed
from pursewebs.serving import bid_serves, reply_to_first, reply_to_second
from pursewebs.slips import owner
from pursewebs.whole import check_most, check_one_or_two, check_range, check_whole


def reasons(web, k, stand, purse):
    """Whose the state is, the bid and the step of its plan, low and high, and what the hand has to spare."""
    check_state(web, k, stand, purse)
    check_moving(web, stand)
    check_most(k, MOST_CHIPS)
    row = numbers_at(web, k)
    hand, bid, step = told_deed(web, k, row, stand, purse)
    spare = purse - row[stand] if hand == 1 else row[stand] - 1 - purse
    return (hand, bid, step, low_of(web, row, stand), high_of(web, row, stand), spare)


def hint(web, k, stand, purse, hand, bid):
    """Whether the bid serves the hand, and the least bid by which the other hand makes it pay if it does not."""
    check_whole(hand, bid)
    check_state(web, k, stand, purse)
    check_one_or_two(hand)
    check_range(bid, 0, purse if hand == 1 else k - purse)
    check_moving(web, stand)
    check_most(k, MOST_CHIPS)
    row = numbers_at(web, k)
    if owner(row, stand, purse) != hand:
        raise WrongDeed("the state is not that of the hand")
    if bid_serves(web, row, stand, purse, hand, bid):
        return ("serves", None)
    if hand == 1:
        return ("costs", reply_to_first(web, row, stand, purse, bid))
    return ("costs", reply_to_second(web, row, stand, purse, bid))
