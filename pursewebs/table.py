"""Tables: a finite list of rows that tells the numbers of a small web at every k."""

from pursewebs.checks import check_floor, check_part_range, check_row_lists, check_small, check_stand
from pursewebs.errors import WrongKind, WrongNumber, WrongText
from pursewebs.lower import lower_breaks
from pursewebs.reading import check_text, check_text_size, numbers_from_line
from pursewebs.share import Share
from pursewebs.slopes import pass_breaks
from pursewebs.tablesearch import least_parts
from pursewebs.telling import told_place, told_row
from pursewebs.upper import upper_breaks
from pursewebs.web import check_web
from pursewebs.webparts import spaced
from pursewebs.whole import GREATEST, check_least, check_most, check_size, check_whole, whole_list


class Table:
    """Rows with ranks at the first k, and slopes for all other k. It need not be good."""

    def __init__(self, web, start, period, slopes, rows, ranks):
        check_table(web, start, period, slopes, rows, ranks)
        self._web = web
        self._start = start
        self._period = period
        self._slopes = tuple(slopes)
        self._rows = tuple([tuple(row) for row in rows])
        self._ranks = tuple([tuple(row) for row in ranks])

    @property
    def web(self):
        return self._web

    @property
    def start(self):
        return self._start

    @property
    def period(self):
        return self._period

    @property
    def slopes(self):
        return self._slopes

    @property
    def rows(self):
        return self._rows

    @property
    def ranks(self):
        return self._ranks

    def __eq__(self, other):
        return (isinstance(other, Table) and self._web == other._web and self._start == other._start
                and self._period == other._period and self._slopes == other._slopes
                and self._rows == other._rows and self._ranks == other._ranks)

    def __getitem__(self, at):
        check_whole(at)
        check_far(at)
        return told_row(self._start, self._period, self._slopes, self._rows, at)

    def __iter__(self):
        raise TypeError("a table has no end")

    @classmethod
    def least(cls, web):
        """The least table of a small web."""
        check_web(web)
        check_small(web)
        start, period, slopes, rows, ranks = least_parts(web)
        return cls(web, start, period, slopes, rows, ranks)

    @classmethod
    def from_text(cls, web, written):
        """The table of the web with that text."""
        check_web(web)
        check_text(written)
        check_text_size(written)
        check_small(web)
        start, period, slopes, rows, ranks = numbers_from_text(written)
        try:
            table = cls(web, start, period, slopes, rows, ranks)
        except WrongNumber as fault:
            raise WrongText("a text is that of no table of the web") from fault
        return table

    def told_ranks(self, k):
        """The ranks told at k."""
        check_whole(k)
        check_far(k)
        place, _ = told_place(self._start, self._period, k)
        return self._ranks[place]

    def number(self, stand, k):
        """The part of the row told at k at the stand."""
        check_whole(stand, k)
        check_stand(self._web, stand)
        check_far(k)
        return number_told(self, stand, k)

    def share(self, stand):
        """The slope of the stand divided by the period."""
        check_whole(stand)
        check_stand(self._web, stand)
        return Share(self._slopes[stand], self._period)

    def judged(self):
        """The places at which the table is not good, each a k and a stand."""
        found = []
        for k, row in enumerate(self._rows):
            faults = lower_breaks(self._web, k, row) + upper_breaks(self._web, k, row, self._ranks[k])
            if k >= self._start:
                faults = faults + pass_breaks(self._web, k, row, self._ranks[k], self._period, self._slopes)
            found.extend([(k, stand) for stand in sorted(set(faults))])
        return tuple(found)


def number_told(table, stand, k):
    """The number that the table tells of the stand at a k of any size."""
    place, times = told_place(table.start, table.period, k)
    return table.rows[place][stand] + times * table.slopes[stand]


def check_far(k):
    """Raise what is wrong with an integer as a k."""
    check_least(k, 0)
    check_most(k, GREATEST)


def check_table(web, start, period, slopes, rows, ranks):
    """Raise what is wrong with the parts of a table."""
    check_web(web)
    check_whole(start, period)
    whole_list(slopes)
    check_row_lists(rows)
    check_row_lists(ranks)
    check_least(start, 0)
    check_least(period, 1)
    check_part_range(slopes, web.size, period)
    check_size(rows, start + period)
    check_size(ranks, start + period)
    for k, row in enumerate(rows):
        check_part_range(row, web.size, k + 1)
        check_floor(ranks[k], web.size)
    check_small(web)


def check_is_table(thing):
    """Raise WrongKind if thing is no table."""
    if not isinstance(thing, Table):
        raise WrongKind("a table is asked for")


def table_written(table):
    """The text of the table."""
    check_is_table(table)
    lines = [f"table {table.start} {table.period}\n", f"slopes {spaced(table.slopes)}\n"]
    for k, row in enumerate(table.rows):
        lines.append(f"row {spaced(row)}\nranks {spaced(table.ranks[k])}\n")
    return "".join(lines)


def numbers_from_text(text):
    """The start, the period, the slopes, the rows and the ranks that the text of a table tells."""
    lines = text.split("\n")
    if len(lines) < 5 or len(lines) % 2 == 0 or lines[-1] != "":
        raise WrongText("the text of a table has two lines, and two more for each k")
    head = numbers_from_line(lines[0], "table")
    if len(head) != 2:
        raise WrongText("the first line of a table has two numbers")
    rows = [numbers_from_line(line, "row") for line in lines[2:-1:2]]
    ranks = [numbers_from_line(line, "ranks") for line in lines[3:-1:2]]
    return (head[0], head[1], numbers_from_line(lines[1], "slopes"), rows, ranks)
