"""Rows of half chips with two ranks for each stand, and the plan that goes by them."""

from pursewebs.checks import check_even, check_moving, check_row_lists
from pursewebs.errors import WrongNumber
from pursewebs.plans import Plan
from pursewebs.tokenbids import check_holding, check_token_kinds, check_token_row, token_first_told
from pursewebs.tokenrows import next_token_row, token_dues_at, token_fallen, token_price_of
from pursewebs.verdict import Verdict
from pursewebs.whole import GREATEST, check_least, check_most, check_size, check_whole


def check_token_paper(web, k, row):
    """Raise what is wrong with an even web, a k and a row of parts in 0 .. 2K."""
    check_token_kinds(web, k, row)
    check_even(web)
    check_token_row(web, k, row)
    check_most(k, GREATEST)


def check_token_ranked(web, k, row, ranks):
    """Raise what is wrong with the same and two ranks for each stand."""
    check_token_kinds(web, k, row)
    check_row_lists(ranks)
    check_even(web)
    check_token_row(web, k, row)
    check_size(ranks, web.size)
    for pair in ranks:
        check_size(pair, 2)
        check_least(pair[0], 0)
        if pair[0] > pair[1]:
            raise WrongNumber("the first rank of a stand is above its second one")
    check_most(k, GREATEST)


def layer(pair, number):
    """The layer of this number of a stand with these two ranks."""
    if number < pair[0]:
        return 2
    return 1 if number < pair[1] else 0


def with_layer(row, ranks, number):
    """The row plus the layers of this number."""
    return [part + layer(ranks[stand], number) for stand, part in enumerate(row)]


def token_lower(web, k, row):
    """The Verdict of the stands at which the row is not token lower."""
    check_token_paper(web, k, row)
    after = next_token_row(web, k, row)
    return Verdict([stand for stand, number in enumerate(row) if number > after[stand]])


def token_need(web, k, row, ranks, stand, rank):
    """What the row must reach at the stand for this one of its ranks."""
    if rank == 0:
        return token_dues_at(web, k)[stand]
    return token_price_of(web, k, with_layer(row, ranks, rank - 1), stand)


def token_upper(web, k, row, ranks):
    """The Verdict of the stands at which the row with the ranks is not token upper."""
    check_token_ranked(web, k, row, ranks)
    found = []
    for stand, pair in enumerate(ranks):
        first = token_need(web, k, row, ranks, stand, pair[0])
        second = token_need(web, k, row, ranks, stand, pair[1])
        if first > row[stand] + 1 or second > row[stand]:
            found.append(stand)
    return Verdict(found)


def token_ranks(web, k, row):
    """The two ranks of each stand of a right row, None at each stand of the rest, and the rest."""
    extra, ranks = token_fallen(web, k, row)
    told = tuple([None if extra[stand] > 0 else tuple(pair) for stand, pair in enumerate(ranks)])
    return (told, tuple([stand for stand, more in enumerate(extra) if more > 0]))


def token_falling(web, k, row):
    """The two ranks of each stand, with None at the stands of the rest, and the rest."""
    check_token_paper(web, k, row)
    return token_ranks(web, k, row)


class TokenPlan(Plan):
    """The first hand's plan, with the token, of a row with two ranks for each stand."""

    def __init__(self, web, k, row, ranks):
        check_token_ranked(web, k, row, ranks)
        Plan.__init__(self, web, k, row)
        self._ranks = tuple([tuple(pair) for pair in ranks])

    @property
    def web(self):
        return self._web

    @property
    def chips(self):
        return self._chips

    @property
    def row(self):
        return self._row

    @property
    def ranks(self):
        return self._ranks

    def __call__(self, stand, half_chips):
        self._check_holding(stand, half_chips)
        check_moving(self._web, stand)
        rank = self._rank(stand, half_chips)
        if rank == 0:
            return (0, False, self._web.first[stand][0])
        extra = half_chips - self._row[stand]
        raised = [part + extra - extra % 2 for part in with_layer(self._row, self._ranks, rank - 1)]
        return token_first_told(self._web, raised, stand, half_chips)

    def spare(self, stand, half_chips):
        """The half chips less the part of the row at the stand."""
        self._check_holding(stand, half_chips)
        return half_chips - self._row[stand]

    def claims(self, stand, half_chips):
        """True if the plan claims at the state."""
        extra = self.spare(stand, half_chips)
        due = token_dues_at(self._web, self._chips)[stand]
        return extra >= 0 and self._rank(stand, half_chips) == 0 and half_chips >= due

    def falls(self, stand, half_chips):
        """The tuple that falls with each move, None if the half chips are below the row."""
        extra = self.spare(stand, half_chips)
        return None if extra < 0 else (self._chips - extra // 2, self._rank(stand, half_chips))

    def _check_holding(self, stand, half_chips):
        """Raise what is wrong with a state that may be at an end."""
        check_whole(stand, half_chips)
        check_holding(self._web, self._chips, stand, half_chips)

    def _rank(self, stand, half_chips):
        """The rank that counts at the state: the second one if an even number is to spare, else the first one."""
        extra = half_chips - self._row[stand]
        if extra < 0:
            return 0
        return self._ranks[stand][1 - extra % 2]
