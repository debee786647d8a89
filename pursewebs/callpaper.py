"""Both halves of a row with calls: ranks show it from above, counts from below."""

from pursewebs.callchecks import check_call_kinds, checked_calls, checked_row_calls
from pursewebs.callranks import counts_for_ever, ranks_of
from pursewebs.checks import check_floor
from pursewebs.forever import row_for_ever
from pursewebs.prices import dues_at, price_of
from pursewebs.upper import raised_from
from pursewebs.verdict import Verdict
from pursewebs.visits import MOST_CHIPS
from pursewebs.whole import GREATEST, whole_list


def checked_half(web, k, calls, row, *numbers):
    """The set of the calls, after a look at a web, k, calls, a row of parts in 0 .. K and its ranks or counts."""
    check_call_kinds(web, k, calls)
    for told in (row, *numbers):
        whole_list(told)
    for told in numbers:
        check_floor(told, web.size)
    return checked_row_calls(web, k, calls, row, 1, GREATEST)


def above_breaks(web, k, calls, row, ranks):
    """The stands at which a right row with ranks is no upper half."""
    dues = dues_at(web, k)
    found = []
    for stand, part in enumerate(row):
        rank = ranks[stand]
        if not web.first[stand]:
            holds = rank == 0 and part >= dues[stand]
        elif stand in calls:
            holds = rank == 0 and part >= price_of(web, k, row, stand)
        elif rank == 0:
            holds = part == k + 1
        else:
            holds = part >= price_of(web, k, raised_from(row, ranks, rank), stand)
        if not holds:
            found.append(stand)
    return found


def lowered_from(row, counts, count):
    """The row with 1 less at each stand of this count or more."""
    return [part - 1 if counts[stand] >= count else part for stand, part in enumerate(row)]


def lowered_at(row, counts, calls, stand):
    """The row that the count of the stand lowers: at a call by the stands of the same count, too."""
    return lowered_from(row, counts, counts[stand] if stand in calls else counts[stand] + 1)


def below_breaks(web, k, calls, row, counts):
    """The stands at which a right row with counts is no lower half."""
    dues = dues_at(web, k)
    found = []
    for stand, part in enumerate(row):
        count = counts[stand]
        if not web.first[stand]:
            holds = count == 0 and part <= dues[stand]
        elif part == 0 or count == 0:
            holds = part == 0 and count == 0
        else:
            holds = part <= price_of(web, k, lowered_at(row, counts, calls, stand), stand)
        if not holds:
            found.append(stand)
    return found


def half_above(web, k, calls, row, ranks):
    """The Verdict of the stands at which the row with the ranks is no upper half."""
    stands = checked_half(web, k, calls, row, ranks)
    return Verdict(above_breaks(web, k, stands, row, ranks))


def half_below(web, k, calls, row, counts):
    """The Verdict of the stands at which the row with the counts is no lower half."""
    stands = checked_half(web, k, calls, row, counts)
    return Verdict(below_breaks(web, k, stands, row, counts))


class CallPaper:
    """A row with ranks and counts, which need not show anything."""

    def __init__(self, web, k, calls, row, ranks, counts):
        self._calls = checked_half(web, k, calls, row, ranks, counts)
        self._web = web
        self._chips = k
        self._row = tuple(row)
        self._ranks = tuple(ranks)
        self._counts = tuple(counts)

    @property
    def web(self):
        return self._web

    @property
    def chips(self):
        return self._chips

    @property
    def calls(self):
        return self._calls

    @property
    def row(self):
        return self._row

    @property
    def ranks(self):
        return self._ranks

    @property
    def counts(self):
        return self._counts

    def __eq__(self, other):
        return (isinstance(other, CallPaper) and self._web == other._web and self._chips == other._chips
                and self._calls == other._calls and self._row == other._row and self._ranks == other._ranks
                and self._counts == other._counts)

    @classmethod
    def of(cls, web, k, calls):
        """The paper of the row for ever with the ranks and counts that are found for it."""
        stands = checked_calls(web, k, calls, MOST_CHIPS)
        row = row_for_ever(web, k, stands)
        return cls(web, k, stands, row, ranks_of(web, k, stands, row), counts_for_ever(web, stands, row))

    def judged(self):
        """The Verdict of the faults of either half."""
        return Verdict(above_breaks(self._web, self._chips, self._calls, self._row, self._ranks)
                       + below_breaks(self._web, self._chips, self._calls, self._row, self._counts))
