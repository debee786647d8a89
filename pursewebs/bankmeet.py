"""The purse that wins when bids go to the other hand beside the one that wins when they go to a bank."""

from pursewebs.against import purse_against
from pursewebs.bankrows import bank_rows
from pursewebs.checks import check_stand
from pursewebs.web import check_web
from pursewebs.whole import check_least, check_whole


def hand_against(web, stand, b, most):
    """The least purse that wins at the stand against b chips of the second hand, None if it is above most."""
    return purse_against(web, stand, b, most)


def bank_against(web, stand, b):
    """The bank number of the stand against b."""
    check_web(web)
    check_whole(stand, b)
    check_stand(web, stand)
    return bank_rows(web, b)[b][stand]


def dearer(web, stand, b, most):
    """Where the greater purse is needed against b: "hand" or "bank", or "same"."""
    check_web(web)
    check_whole(stand, b, most)
    check_stand(web, stand)
    check_least(most, 0)
    by_bank = bank_rows(web, b)[b][stand]
    by_hand = purse_against(web, stand, b, most)
    if by_hand == by_bank:
        return "same"
    if by_bank is None or (by_hand is not None and by_hand < by_bank):
        return "bank"
    return "hand"
