"""Tables for ever: a finite list of rows that tells the row for ever of a web at every k."""

from pursewebs.callchecks import called_stands, check_calls_move
from pursewebs.callpaper import CallPaper, above_breaks, below_breaks
from pursewebs.callsearch import call_pass_breaks, least_call_parts
from pursewebs.checks import check_floor, check_part_range, check_row_lists, check_stand
from pursewebs.share import Share
from pursewebs.table import check_far
from pursewebs.telling import told_place, told_row
from pursewebs.web import check_web
from pursewebs.whole import check_least, check_most, check_size, check_whole, whole_list

MOST_STANDS = 9
MOST_MOVING = 5
MOST_DUE = 9


def check_call_sizes(web):
    """Raise TooMuch if the web is too great for a table for ever."""
    check_most(web.size, MOST_STANDS)
    check_most(len(web.moving), MOST_MOVING)
    check_most(web.greatest_due, MOST_DUE)


def checked_table_calls(web, calls, start, period, slopes, lists):
    """The set of the calls, after a look at all parts of a table; lists are its rows, ranks and counts."""
    check_web(web)
    check_whole(start, period)
    whole_list(slopes)
    for rows in lists:
        check_row_lists(rows)
    stands = called_stands(web, calls)
    check_least(start, 0)
    check_least(period, 1)
    check_part_range(slopes, web.size, period)
    for rows in lists:
        check_size(rows, start + period)
        for row in rows:
            check_floor(row, web.size)
    for k, row in enumerate(lists[0]):
        check_part_range(row, web.size, k + 1)
    check_calls_move(web, stands)
    check_call_sizes(web)
    return stands


class CallTable:
    """Rows with ranks and counts at the first k, and slopes for all other k. It need not be good."""

    def __init__(self, web, calls, start, period, slopes, rows, ranks, counts):
        self._calls = checked_table_calls(web, calls, start, period, slopes, (rows, ranks, counts))
        self._web = web
        self._start = start
        self._period = period
        self._slopes = tuple(slopes)
        self._rows = tuple([tuple(row) for row in rows])
        self._ranks = tuple([tuple(row) for row in ranks])
        self._counts = tuple([tuple(row) for row in counts])

    @property
    def web(self):
        return self._web

    @property
    def calls(self):
        return self._calls

    @property
    def start(self):
        return self._start

    @property
    def period(self):
        return self._period

    @property
    def slopes(self):
        return self._slopes

    @property
    def rows(self):
        return self._rows

    @property
    def ranks(self):
        return self._ranks

    @property
    def counts(self):
        return self._counts

    def __eq__(self, other):
        return (isinstance(other, CallTable) and self._web == other._web and self._calls == other._calls
                and self._start == other._start and self._period == other._period
                and self._slopes == other._slopes and self._rows == other._rows
                and self._ranks == other._ranks and self._counts == other._counts)

    def __getitem__(self, at):
        check_whole(at)
        check_far(at)
        return told_row(self._start, self._period, self._slopes, self._rows, at)

    def __iter__(self):
        raise TypeError("a table for ever has no end")

    @classmethod
    def least(cls, web, calls):
        """The least table for ever of the web with these calls."""
        check_web(web)
        stands = called_stands(web, calls)
        check_calls_move(web, stands)
        check_call_sizes(web)
        start, period, slopes, rows, ranks, counts = least_call_parts(web, stands)
        return cls(web, stands, start, period, slopes, rows, ranks, counts)

    def told(self, k):
        """The paper with the row, the ranks and the counts that the table tells at k."""
        check_whole(k)
        check_far(k)
        place, _ = told_place(self._start, self._period, k)
        row = told_row(self._start, self._period, self._slopes, self._rows, k)
        return CallPaper(self._web, k, self._calls, row, self._ranks[place], self._counts[place])

    def share(self, stand):
        """The slope of the stand divided by the period."""
        check_whole(stand)
        check_stand(self._web, stand)
        return Share(self._slopes[stand], self._period)

    def judged(self):
        """The places at which the table is not good, each a k and a stand."""
        found = []
        for k, row in enumerate(self._rows):
            faults = above_breaks(self._web, k, self._calls, row, self._ranks[k])
            faults = faults + below_breaks(self._web, k, self._calls, row, self._counts[k])
            if k >= self._start:
                told = (row, self._ranks[k], self._counts[k])
                faults = faults + call_pass_breaks(self._web, self._calls, k, told, self._period, self._slopes)
            found.extend([(k, stand) for stand in sorted(set(faults))])
        return tuple(found)
