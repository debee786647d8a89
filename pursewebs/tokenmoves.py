"""Moves while one hand holds a token: h counts the half chips of the first hand, an odd h with the token."""


def token_bought(h, p, p_takes, q, q_takes):
    """The hand that gets the move with these bids, and the half chips of the first hand behind it."""
    if p > q:
        return (1, h - 2 * p)
    if p < q:
        return (2, h + 2 * q)
    if h % 2 == 1:
        return (1, h - 2 * p - 1) if p_takes else (2, h + 2 * q)
    return (2, h + 2 * q + 1) if q_takes else (1, h - 2 * p)


def bids_of(k, h, hand):
    """All bids that the hand has, each a number of chips and whether it takes the move at a tie."""
    chips = h // 2 if hand == 1 else k - h // 2
    takes = (False, True) if h % 2 == 2 - hand else (False,)
    return [(bid, taking) for bid in range(chips + 1) for taking in takes]
