"""Rows of half chips, for ties that go by a token."""

from pursewebs.checks import check_even, check_stand
from pursewebs.dues import due_at, due_number
from pursewebs.prices import high_of, low_of
from pursewebs.web import check_web
from pursewebs.whole import GREATEST, check_least, check_most, check_size, check_whole, whole_list

MOST_CHIPS = 200


def token_half_of(x, y):
    """The token half of two integers: the half of their sum, rounded up if x is odd."""
    return (x + y + x % 2) // 2


def token_half(x, y):
    """The token half of two integers."""
    check_whole(x, y)
    return token_half_of(x, y)


def token_price_of(web, k, row, stand):
    """The token price, for right arguments."""
    if not web.first[stand]:
        return 2 * (k + 1)
    return token_half_of(low_of(web, row, stand), high_of(web, row, stand))


def token_dues_at(web, k):
    """The row of the token due numbers at k."""
    return tuple([2 * due_at(due, k) for due in web.dues])


def token_price(web, k, row, stand):
    """The token price of the stand at the row."""
    check_web(web)
    check_whole(k, stand)
    whole_list(row)
    check_even(web)
    check_least(k, 0)
    check_size(row, web.size)
    check_stand(web, stand)
    check_most(k, GREATEST)
    return token_price_of(web, k, row, stand)


def token_due(due, k):
    """The token due number."""
    return 2 * due_number(due, k)


def next_token_row(web, k, row):
    """The next token row, for right arguments."""
    dues = token_dues_at(web, k)
    return tuple([min(due, token_price_of(web, k, row, stand)) for stand, due in enumerate(dues)])


def check_token_chips(web, k):
    """Raise what is wrong with an even web and a k of at most 200."""
    check_web(web)
    check_whole(k)
    check_even(web)
    check_least(k, 0)
    check_most(k, MOST_CHIPS)


def token_rounds(web, k):
    """The rows from that of the token due numbers down to the token row."""
    check_token_chips(web, k)
    row = token_dues_at(web, k)
    after = next_token_row(web, k, row)
    yield row
    while after != row:
        row = after
        yield row
        after = next_token_row(web, k, row)


def token_row(web, k):
    """The token row at k."""
    check_token_chips(web, k)
    row = (0,) * web.size
    for chips in range(k + 1):
        row = token_lifted(web, chips, row)
    return row


def token_lifted(web, k, row):
    """The token row at k from that at k-1, or from the row of zeros for k = 0.

    One chip more raises each part by at most 2. What falling out leaves of these 2 is what it does raise.
    """
    extra, _ = token_fallen(web, k, row)
    return tuple([number + extra[stand] for stand, number in enumerate(row)])


def token_fallen(web, k, row):
    """What is left at last of 2 half chips more at each stand, and the two ranks of each stand.

    A rank is None if so much is never lost there. An end, whose token price is above every due, loses nothing.
    """
    dues = token_dues_at(web, k)
    extra = [max(0, min(2, dues[stand] - number)) for stand, number in enumerate(row)]
    ranks = [[0 if more <= 1 else None, 0 if more == 0 else None] for more in extra]
    done = 0
    lost = token_losses(web, row, extra)
    while lost:
        done += 1
        for stand, more in lost:
            extra[stand] = more
            # Whatever is lost of 2 leaves at most 1.
            if ranks[stand][0] is None:
                ranks[stand][0] = done
            if more == 0:
                ranks[stand][1] = done
        lost = token_losses(web, row, extra)
    return (extra, ranks)


def token_losses(web, row, extra):
    """The stands that have less extra in the next round, each with what it has then."""
    raised = [number + extra[stand] for stand, number in enumerate(row)]
    found = []
    for stand in web.moving:
        if extra[stand] > 0:
            price = token_half_of(low_of(web, raised, stand), high_of(web, raised, stand))
            more = max(0, price - row[stand])
            if more < extra[stand]:
                found.append((stand, more))
    return found
