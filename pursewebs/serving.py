"""What bids bring, and which bids serve a hand against a row."""

from pursewebs.checks import check_moving, check_row_state, check_stand
from pursewebs.prices import high_of, low_of
from pursewebs.web import check_web
from pursewebs.whole import check_least, check_most, check_range, check_whole

MOST_CHIPS = 400


def bought(mark, purse, p, q):
    """The hand that gets the move with these bids, and the first hand's purse behind it."""
    if p > q or (p == q and mark == 1):
        return (1, purse - p)
    return (2, purse + q)


def outcome(web, stand, purse, p, q):
    """The hand that gets the move at the stand, and the first hand's purse behind it."""
    check_web(web)
    check_whole(stand, purse, p, q)
    check_stand(web, stand)
    check_least(purse, 0)
    check_range(p, 0, purse)
    check_least(q, 0)
    check_moving(web, stand)
    return bought(web.marks[stand], purse, p, q)


def check_serving(web, k, row, stand, purse):
    """Raise what is wrong with the arguments of first_serving and second_serving."""
    check_row_state(web, k, row, stand, purse)
    check_moving(web, stand)
    check_most(k, MOST_CHIPS)


def first_serving(web, k, row, stand, purse):
    """All bids that serve the first hand against the row, ascending."""
    check_serving(web, k, row, stand, purse)
    low = low_of(web, row, stand)
    high = high_of(web, row, stand)
    if web.marks[stand] == 1:
        return tuple(range(max(0, high - purse - 1), purse - low + 1))
    # The bid 0 never gets the move here, so it serves without a purse that reaches low.
    idle = [0] if purse >= high else []
    return tuple(idle + list(range(max(1, high - purse), purse - low + 1)))


def second_serving(web, k, row, stand, purse):
    """All bids that serve the second hand against the row, ascending."""
    check_serving(web, k, row, stand, purse)
    low = low_of(web, row, stand)
    high = high_of(web, row, stand)
    if web.marks[stand] == 2:
        return tuple(range(max(0, purse - low), high - purse))
    # The bid 0 never gets the move here, so it serves where every purse behind a bid is below low.
    idle = [0] if purse < low else []
    return tuple(idle + list(range(max(1, purse - low + 1), high - purse)))


def bid_serves(web, row, stand, purse, hand, bid):
    """True if a bid that the hand has at a right state serves it against the row."""
    low = low_of(web, row, stand)
    high = high_of(web, row, stand)
    mark = web.marks[stand]
    if hand == 1:
        if mark == 2 and bid == 0:
            return purse >= high
        spare = 1 if mark == 1 else 0
        return high - purse - spare <= bid <= purse - low
    if mark == 1 and bid == 0:
        return purse < low
    more = 1 if mark == 1 else 0
    return purse - low + more <= bid < high - purse


def reply(web, k, row, stand, purse, p):
    """The least bid of the second hand that makes p and it good for that hand, None if there is none."""
    check_whole(p)
    check_row_state(web, k, row, stand, purse)
    check_range(p, 0, purse)
    check_moving(web, stand)
    check_most(k, MOST_CHIPS)
    return reply_to_first(web, row, stand, purse, p)


def reply_to_first(web, row, stand, purse, p):
    """The least bid that is good for the second hand beside p, None if there is none.

    Here and for the other hand no bid above its chips is good, since all parts of the row are in 0 .. k+1.
    """
    mark = web.marks[stand]
    if bought(mark, purse, p, 0)[0] == 1 and purse - p < low_of(web, row, stand):
        return 0
    least = p + 1 if mark == 1 else p
    if purse + least < high_of(web, row, stand):
        return least
    return None


def reply_to_second(web, row, stand, purse, q):
    """The least bid that is good for the first hand beside q, None if there is none."""
    mark = web.marks[stand]
    if bought(mark, purse, 0, q)[0] == 2 and purse + q >= high_of(web, row, stand):
        return 0
    least = q if mark == 1 else q + 1
    if purse - least >= low_of(web, row, stand):
        return least
    return None
