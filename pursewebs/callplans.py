"""The plans of both hands for coming back for ever, and their duels."""

from pursewebs.bids import lowest_step, told_first, told_second
from pursewebs.callchecks import check_call_kinds, checked_calls
from pursewebs.callpaper import CallPaper, lowered_at
from pursewebs.checks import check_moving, check_state_range
from pursewebs.errors import WrongKind
from pursewebs.plans import Plan
from pursewebs.serving import bought
from pursewebs.state import reaches_due
from pursewebs.upper import raised_from
from pursewebs.visits import MOST_CHIPS
from pursewebs.whole import check_least, check_most, check_whole

MOST_MOVES = 5000


def check_call_paper(thing):
    """Raise WrongKind if thing is no paper with calls."""
    if not isinstance(thing, CallPaper):
        raise WrongKind("a paper with calls is asked for")


class CallFirst(Plan):
    """The first hand's plan of the row and ranks of a paper with calls."""

    def __init__(self, paper):
        check_call_paper(paper)
        Plan.__init__(self, paper.web, paper.chips, paper.row)
        self._calls = paper.calls
        self._ranks = paper.ranks

    def __call__(self, stand, purse):
        self._check_state(stand, purse)
        check_moving(self._web, stand)
        extra = purse - self._row[stand]
        rank = self._ranks[stand]
        if extra < 0 or (stand not in self._calls and rank == 0):
            return (0, self._web.first[stand][0])
        if stand in self._calls:
            bid, step = told_first(self._web, [part + extra for part in self._row], stand, purse)
            return (min(bid, purse), step)
        raised = [part + extra for part in raised_from(self._row, self._ranks, rank)]
        bid, _ = told_first(self._web, raised, stand, purse)
        return (min(bid, purse), lowest_step(self._web, self._row, self._ranks, stand, rank))

    def due_by(self, times):
        """How many moves at most it takes to come to this many visits, or to a paid end."""
        check_whole(times)
        check_least(times, 1)
        most = max(self._ranks)
        return (most + 1) * times + most * self._chips

    def falls(self, stand, purse):
        """The tuple that falls at stands that are no calls, None if the purse is below the row."""
        extra = self.spare(stand, purse)
        return None if extra < 0 else (self._chips - extra, self._ranks[stand])


class CallSecond(Plan):
    """The second hand's plan of the row and counts of a paper with calls."""

    def __init__(self, paper):
        check_call_paper(paper)
        Plan.__init__(self, paper.web, paper.chips, paper.row)
        self._calls = paper.calls
        self._counts = paper.counts

    def __call__(self, stand, purse):
        self._check_state(stand, purse)
        check_moving(self._web, stand)
        extra = self._row[stand] - 1 - purse
        if extra < 0 or self._counts[stand] == 0:
            return (0, self._web.second[stand][0])
        lowered = [part - extra for part in lowered_at(self._row, self._counts, self._calls, stand)]
        bid, step = told_second(self._web, lowered, stand, purse)
        return (min(bid, self._chips - purse), step)

    def visits_at_most(self):
        """How many visits there are at most from a purse below the row."""
        return max(self._counts) * (self._chips + 1)

    def falls(self, stand, purse):
        """The tuple that never grows and falls behind each visit, None if the purse is not below the row."""
        extra = -1 - self.spare(stand, purse)
        return None if extra < 0 else (self._chips - extra, self._counts[stand])


def check_duel(web, k, calls, stand, purse, most):
    """Raise what is wrong with the arguments of a duel with calls."""
    check_call_kinds(web, k, calls)
    check_whole(stand, purse, most)
    check_state_range(web, k, stand, purse)
    check_least(most, 0)
    checked_calls(web, k, calls, MOST_CHIPS)
    check_most(most, MOST_MOVES)


def call_duel(web, k, calls, stand, purse, most):
    """How many visits a play of both plans has, where it is behind its last move, and how many moves it has."""
    check_duel(web, k, calls, stand, purse, most)
    paper = CallPaper.of(web, k, calls)
    first = CallFirst(paper)
    second = CallSecond(paper)
    visits = 0
    moves = 0
    while web.first[stand] and moves < most:
        visits = visits + (1 if stand in paper.calls else 0)
        p, first_step = first(stand, purse)
        q, second_step = second(stand, purse)
        hand, purse = bought(web.marks[stand], purse, p, q)
        stand = first_step if hand == 1 else second_step
        moves += 1
    if web.first[stand]:
        return (visits + (1 if stand in paper.calls else 0), "going", moves)
    return (visits, "paid" if reaches_due(web, k, stand, purse) else "lost", moves)
