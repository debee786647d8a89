"""How the numbers of a stand go about its share, and how those of two stands go about each other."""

from pursewebs.checks import check_stand
from pursewebs.share import Share
from pursewebs.table import check_is_table, number_told
from pursewebs.whole import check_whole


def reach_off(table, stand):
    """The least and the greatest value of the number less its share of k+1, each with its least k."""
    check_is_table(table)
    check_whole(stand)
    check_stand(table.web, stand)
    period = table.period
    # Behind the rows of the table the values come again with the period.
    values = [row[stand] * period - table.slopes[stand] * (k + 1) for k, row in enumerate(table.rows)]
    least = min(values)
    greatest = max(values)
    return (Share(least, period), values.index(least), Share(greatest, period), values.index(greatest))


def check_two(table, v, w):
    """Raise what is wrong with a table and two stands."""
    check_is_table(table)
    check_whole(v, w)
    check_stand(table.web, v)
    check_stand(table.web, w)


def is_above(table, v, w, k):
    """True if the number of v at k is greater than that of w."""
    return number_told(table, v, k) > number_told(table, w, k)


def settled_from(table, v, w):
    """The least k, at least the start, from which on the k with v above w come again with the period."""
    gain = table.slopes[v] - table.slopes[w]
    found = table.start
    if gain == 0:
        return found
    for k in range(table.start, table.start + table.period):
        above = table.rows[k][v] - table.rows[k][w]
        if gain > 0 and above <= 0:
            changed = -above // gain + 1
        elif gain < 0 and above > 0:
            changed = (above - gain - 1) // -gain
        else:
            changed = 0
        # So many periods later it is otherwise, and stays so.
        if changed > 0:
            found = max(found, k + (changed - 1) * table.period + 1)
    return found


def ordered(table, v, w):
    """Where the k with v above w begin to come again, those before, and the remainders of those behind."""
    check_two(table, v, w)
    return found_order(table, v, w)


def found_order(table, v, w):
    """What ordered returns, for right arguments."""
    begin = settled_from(table, v, w)
    exceptions = tuple([k for k in range(begin) if is_above(table, v, w, k)])
    period = table.period
    remainders = [k % period for k in range(begin, begin + period) if is_above(table, v, w, k)]
    return (begin, exceptions, tuple(sorted(remainders)))


def ever_above(table, v, w):
    """How often the number of v is greater than that of w."""
    check_two(table, v, w)
    _, exceptions, remainders = found_order(table, v, w)
    if len(remainders) == table.period:
        return "always"
    if remainders:
        return "every so often"
    return "sometimes" if exceptions else "never"
