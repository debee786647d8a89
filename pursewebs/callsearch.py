"""The search for the least table for ever, and rows that pass on to the next period."""

from pursewebs.callranks import counts_for_ever, ranks_of
from pursewebs.dues import slope_of
from pursewebs.forever import CallHeights
from pursewebs.slopes import keeps_order, price_twice


def has_call_slope(web, m, slopes, stand):
    """True if the slope of the stand is that of its due at an end, and its slope price at a stand with steps."""
    if not web.first[stand]:
        return slopes[stand] == slope_of(web.dues[stand], m)
    return 2 * slopes[stand] == price_twice(web, m, slopes, stand)


def stays_at_edge(calls, m, slopes, ranks, counts, stand):
    """True if a stand with steps goes on at the number that a rank 0 or a count 0 tells."""
    if stand not in calls and ranks[stand] == 0 and slopes[stand] != m:
        return False
    return counts[stand] > 0 or slopes[stand] == 0


def call_pass_breaks(web, calls, k, told, m, slopes):
    """The stands at which the row, the ranks and the counts of told do not pass at k."""
    if web.greatest_due > k + 1:
        return list(range(web.size))
    row, ranks, counts = told
    found = []
    for stand in range(web.size):
        holds = has_call_slope(web, m, slopes, stand)
        if holds and web.first[stand]:
            holds = keeps_order(web, row, slopes, stand) and stays_at_edge(calls, m, slopes, ranks, counts, stand)
        if not holds:
            found.append(stand)
    return found


class CallSearch:
    """The rows for ever at the first k with their ranks and counts, and which of them pass."""

    def __init__(self, web, calls):
        self._web = web
        self._calls = calls
        self._heights = CallHeights(web, calls, [0] * web.size)
        self._told = []
        self._known = {}

    def told(self, k):
        """The row for ever at k, its ranks and its counts."""
        while len(self._told) <= k:
            chips = len(self._told)
            self._heights.lift(chips)
            row = self._heights.told()
            ranks = ranks_of(self._web, chips, self._calls, row)
            self._told.append((row, ranks, counts_for_ever(self._web, self._calls, row)))
        return self._told[k]

    def growth(self, start, period):
        """How much the row at start grows within the period."""
        before = self.told(start)[0]
        return tuple([part - before[stand] for stand, part in enumerate(self.told(start + period)[0])])

    def goes_on(self, start, period):
        """True if the rows of the period from start on all pass, with the slopes that they have."""
        slopes = self.growth(start, period)
        for k in range(start, start + period):
            if not self._passes(k, period, slopes):
                return False
        return True

    def _passes(self, k, period, slopes):
        """True if the row at k passes at every stand."""
        # The same few slopes are asked about again and again, and most of them are wrong at every k.
        if (period, slopes) not in self._known:
            wrong = [stand for stand in range(self._web.size)
                     if not has_call_slope(self._web, period, slopes, stand)]
            self._known[(period, slopes)] = not wrong
        if not self._known[(period, slopes)]:
            return False
        if (period, slopes, k) not in self._known:
            faults = call_pass_breaks(self._web, self._calls, k, self.told(k), period, slopes)
            self._known[(period, slopes, k)] = not faults
        return self._known[(period, slopes, k)]


def least_call_parts(web, calls):
    """The start, the period, the slopes, the rows, the ranks and the counts of the least table for ever.

    A good table tells the rows for ever, so its slopes are what they grow by within its period.
    """
    search = CallSearch(web, calls)
    start = 0
    period = found_period(web, search, start)
    while period is None:
        start += 1
        period = found_period(web, search, start)
    told = [search.told(k) for k in range(start + period)]
    rows, ranks, counts = [[parts[place] for parts in told] for place in (0, 1, 2)]
    return (start, period, search.growth(start, period), rows, ranks, counts)


def found_period(web, search, start):
    """The least period of a good table with this start, None if there is none."""
    for period in range(1, (1 << len(web.moving)) + 1):
        if search.goes_on(start, period):
            return period
    return None
