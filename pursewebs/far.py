"""Papers, plans and purses at far k, by a table."""

from pursewebs.checks import check_stand
from pursewebs.paper import Paper
from pursewebs.plans import FirstPlan, SecondPlan
from pursewebs.table import check_far, check_is_table, number_told
from pursewebs.whole import check_whole


def far_paper(table, k):
    """The paper of the row and the ranks that the table tells at k."""
    check_is_table(table)
    return Paper(table.web, k, table[k], table.told_ranks(k))


def far_plans(table, k):
    """The plans of both hands of the row that the table tells at k."""
    check_is_table(table)
    row = table[k]
    return (FirstPlan(table.web, k, row, table.told_ranks(k)), SecondPlan(table.web, k, row))


def far_against(table, stand, other):
    """The least purse that wins at the stand against other chips, None if there is none."""
    check_is_table(table)
    check_whole(stand, other)
    check_stand(table.web, stand)
    check_far(other)
    period = table.period
    # Each period adds this much to k less the number, which never falls when k grows.
    gain = period - table.slopes[stand]
    behind = table.start + period
    if gain > 0:
        behind = behind + (other // gain + 1) * period
    if spared(table, stand, behind) < other:
        return None
    low = 0
    while low < behind:
        middle = (low + behind) // 2
        if spared(table, stand, middle) < other:
            low = middle + 1
        else:
            behind = middle
    return low - other


def spared(table, stand, k):
    """The chips that the second hand has at the least purse that wins at k."""
    return k - number_told(table, stand, k)
