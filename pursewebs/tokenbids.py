"""The told bids of both hands with the token, and whether a bid serves."""

from pursewebs.bids import least_with
from pursewebs.checks import check_even, check_moving, check_part_range, check_stand
from pursewebs.errors import WrongDeed, WrongKind
from pursewebs.prices import high_of, low_of
from pursewebs.tokenmoves import bids_of, token_bought
from pursewebs.web import check_web
from pursewebs.whole import GREATEST, check_least, check_most, check_one_or_two, check_range, check_whole, whole_list

MOST_SERVING_CHIPS = 200


def first_size(high, h):
    """The told size of the first hand at the holding h."""
    if h % 2 == 0:
        need = max(0, high - h - 1)
        return need + need % 2
    if h >= high:
        return 0
    need = high - h
    return need - 1 + need % 2


def second_size(low, h):
    """The told size of the second hand at the holding h."""
    if h % 2 == 1:
        need = max(0, h - low)
        return need + need % 2
    if h < low:
        return 0
    need = h - low
    return need + 1 - need % 2


def token_first_told(web, row, stand, h):
    """The told bid, with takes and step, of the first hand, its chips being at most those that it has."""
    size = first_size(high_of(web, row, stand), h)
    step = least_with(web.first[stand], row, low_of(web, row, stand))
    return (min(size // 2, h // 2), size % 2 == 1, step)


def check_token_kinds(web, k, row):
    """Raise WrongKind if these are no web, no k and no row."""
    check_web(web)
    check_whole(k)
    whole_list(row)


def check_token_row(web, k, row):
    """Raise WrongNumber if a k and a row of parts in 0 .. 2K are out of their ranges."""
    check_least(k, 0)
    check_part_range(row, web.size, 2 * (k + 1))


def check_holding(web, k, stand, h):
    """Raise WrongNumber if these are no stand and no holding."""
    check_stand(web, stand)
    check_range(h, 0, 2 * k + 1)


def check_token_bid(web, k, row, stand, half_chips):
    """Raise what is wrong with the arguments of token_first and token_second."""
    check_token_kinds(web, k, row)
    check_whole(stand, half_chips)
    check_even(web)
    check_token_row(web, k, row)
    check_holding(web, k, stand, half_chips)
    check_moving(web, stand)
    check_most(k, GREATEST)


def token_first(web, k, row, stand, half_chips):
    """The told bid of the first hand, at most its chips, whether it takes ties, and the told step."""
    check_token_bid(web, k, row, stand, half_chips)
    return token_first_told(web, row, stand, half_chips)


def token_second(web, k, row, stand, half_chips):
    """The told bid of the second hand, at most its chips, whether it takes ties, and the told step."""
    check_token_bid(web, k, row, stand, half_chips)
    size = second_size(low_of(web, row, stand), half_chips)
    step = least_with(web.second[stand], row, high_of(web, row, stand))
    return (min(size // 2, k - half_chips // 2), size % 2 == 1, step)


def token_serves(web, k, row, stand, half_chips, side, bid, takes):
    """True if the bid of the hand side serves it against the row."""
    check_token_kinds(web, k, row)
    check_whole(stand, half_chips, side, bid)
    if not isinstance(takes, bool):
        raise WrongKind("takes is True or False")
    check_even(web)
    check_token_row(web, k, row)
    check_holding(web, k, stand, half_chips)
    check_one_or_two(side)
    check_range(bid, 0, half_chips // 2 if side == 1 else k - half_chips // 2)
    check_moving(web, stand)
    if takes and half_chips % 2 != 2 - side:
        raise WrongDeed("the hand does not hold the token")
    check_most(k, MOST_SERVING_CHIPS)
    low = low_of(web, row, stand)
    high = high_of(web, row, stand)
    for other, other_takes in bids_of(k, half_chips, 3 - side):
        if side == 1:
            hand, after = token_bought(half_chips, bid, takes, other, other_takes)
        else:
            hand, after = token_bought(half_chips, other, other_takes, bid, takes)
        good_for_first = after >= (low if hand == 1 else high)
        if good_for_first != (side == 1):
            return False
    return True
