"""Slips: moves by which a hand gives its state away, and what a bid and a step are worth."""

from pursewebs.checks import check_moving, check_state
from pursewebs.errors import WrongDeed
from pursewebs.play import check_play
from pursewebs.rises import MOST_CHIPS, numbers_at
from pursewebs.serving import bid_serves
from pursewebs.whole import check_most, check_one_or_two, check_range, check_whole


def owner(row, stand, purse):
    """The hand whose the state is, row being the number row."""
    return 1 if purse >= row[stand] else 2


def slips(play):
    """The moves of the play that are slips, each by its number, and whose they are."""
    check_play(play)
    check_most(play.chips, MOST_CHIPS)
    row = numbers_at(play.web, play.chips)
    hands = [owner(row, stand, purse) for stand, purse in play]
    return tuple([(number, hands[number - 1]) for number in range(1, len(hands)) if hands[number] != hands[number - 1]])


def slip_kind(web, k, stand, purse, hand, bid, step):
    """Whether a bid and a step of the hand serve it, or which of the two does not."""
    check_whole(hand, bid, step)
    check_state(web, k, stand, purse)
    check_one_or_two(hand)
    check_range(bid, 0, purse if hand == 1 else k - purse)
    check_moving(web, stand)
    check_most(k, MOST_CHIPS)
    row = numbers_at(web, k)
    steps = web.first[stand] if hand == 1 else web.second[stand]
    if step not in steps or owner(row, stand, purse) != hand:
        raise WrongDeed("the step or the state is not that of the hand")
    if not bid_serves(web, row, stand, purse, hand, bid):
        return "bid"
    after = purse - bid if hand == 1 else purse + bid
    # The other hand has the ties at a mark that is not the hand's, so a bid of 0 never gets the move there.
    gets = bid > 0 or web.marks[stand] == hand
    return "step" if gets and owner(row, step, after) != hand else "serves"
