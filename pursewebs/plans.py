"""Plans: what a hand does at each state, without a memory."""

from pursewebs.bids import lowest_step, told_first, told_second
from pursewebs.checks import check_moving, check_row_at, check_state_range
from pursewebs.dues import due_at
from pursewebs.errors import WrongDeed
from pursewebs.upper import check_ranked, raised_from
from pursewebs.web import check_web
from pursewebs.whole import GREATEST, check_least, check_most, check_size, check_whole, whole_list


class Plan:
    """What all plans have that go by one row."""

    def __init__(self, web, k, row):
        check_web(web)
        check_whole(k)
        parts = whole_list(row)
        check_least(k, 0)
        check_size(parts, web.size)
        check_most(k, GREATEST)
        self._web = web
        self._chips = k
        self._row = parts

    @property
    def web(self):
        return self._web

    @property
    def chips(self):
        return self._chips

    @property
    def row(self):
        return self._row

    def __call__(self, stand, purse):
        raise WrongDeed("a plan of no hand has no bids")

    def spare(self, stand, purse):
        """The purse less the part of the row at the stand."""
        self._check_state(stand, purse)
        return purse - self._row[stand]

    def _check_state(self, stand, purse):
        """Raise what is wrong with a state that may be at an end."""
        check_whole(stand, purse)
        check_state_range(self._web, self._chips, stand, purse)


class FirstPlan(Plan):
    """The first hand's plan of a row with ranks."""

    def __init__(self, web, k, row, ranks):
        check_ranked(web, k, row, ranks)
        Plan.__init__(self, web, k, row)
        self._ranks = tuple(ranks)

    @property
    def ranks(self):
        return self._ranks

    def __call__(self, stand, purse):
        self._check_state(stand, purse)
        check_moving(self._web, stand)
        rank = self._ranks[stand]
        extra = purse - self._row[stand]
        if extra < 0 or rank == 0:
            return (0, self._web.first[stand][0])
        raised = [part + extra for part in raised_from(self._row, self._ranks, rank)]
        bid, _ = told_first(self._web, raised, stand, purse)
        return (min(bid, purse), lowest_step(self._web, self._row, self._ranks, stand, rank))

    def claims(self, stand, purse):
        """True if the plan claims at the state."""
        self._check_state(stand, purse)
        return self._ranks[stand] == 0 and purse >= due_at(self._web.dues[stand], self._chips)

    def falls(self, stand, purse):
        """The tuple that falls with each move, None if the purse is below the row."""
        extra = self.spare(stand, purse)
        return None if extra < 0 else (self._chips - extra, self._ranks[stand])

    def steps_left(self, stand, purse):
        """How many moves at most the plan needs before it claims, None if the purse is below the row."""
        extra = self.spare(stand, purse)
        if extra < 0:
            return None
        if self.claims(stand, purse):
            return 0
        return max(self._ranks) * (self._chips + 1 - extra)


class SecondPlan(Plan):
    """The second hand's plan of a row."""

    def __init__(self, web, k, row):
        check_row_at(web, k, row)
        Plan.__init__(self, web, k, row)

    def __call__(self, stand, purse):
        self._check_state(stand, purse)
        check_moving(self._web, stand)
        if purse >= self._row[stand]:
            return (0, self._web.second[stand][0])
        bid, step = told_second(self._web, self._row, stand, purse)
        return (min(bid, self._chips - purse), step)
