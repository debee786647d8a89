"""Bank tables, which show from below and, with ranks, from above where the bank numbers are."""

from pursewebs.bankrows import (MOST_CHIPS, bank_due_of, bank_high, bank_price_of, check_bank_kinds, check_bank_row,
                                least_of, with_highs)
from pursewebs.checks import check_floor, check_row_lists
from pursewebs.web import check_web
from pursewebs.whole import check_least, check_most, check_size


def check_table_kinds(web, table):
    """Raise WrongKind if these are no web and no list of bank rows."""
    check_web(web)
    check_bank_kinds(table)


def check_table_numbers(web, table):
    """Raise WrongNumber if the list of bank rows is empty or a row is no bank row of the web."""
    check_least(len(table), 1)
    for row in table:
        check_bank_row(web, row)


def check_table_size(table):
    """Raise TooMuch if the table has too many rows."""
    check_most(len(table), MOST_CHIPS + 1)


def check_bank_table(web, table):
    """Raise what is wrong with a web and a bank table."""
    check_table_kinds(web, table)
    check_table_numbers(web, table)
    check_table_size(table)


def check_bank_ranked(web, table, ranks):
    """Raise what is wrong with a web, a bank table and its ranks."""
    check_table_kinds(web, table)
    check_row_lists(ranks)
    check_table_numbers(web, table)
    check_size(ranks, len(table))
    for row in ranks:
        check_floor(row, web.size)
    check_table_size(table)


def exceeds(one, two):
    """True if one is greater than two, None being greater than every integer."""
    return two is not None and (one is None or one > two)


def all_highs(web, table):
    """For each b of the table what the rows for 0 .. b-1 tell: hi(-1) .. hi(b-1) of each stand."""
    highs = [[0] for _ in range(web.size)]
    found = []
    for row in table:
        found.append(highs)
        highs = with_highs(web, highs, row)
    return found


def price_by(web, highs, row, stand):
    """The bank price of the stand by the highs of the rows before and the row for b."""
    if not web.first[stand]:
        return None
    low = least_of([row[step] for step in web.first[stand]])
    return bank_price_of(web.marks[stand], low, highs[stand] + [bank_high(web, row, stand)])


def raised_row(row, stands):
    """The bank row with 1 more at each of these stands."""
    return [part if part is None or stand not in stands else part + 1 for stand, part in enumerate(row)]


def bank_lower(web, table):
    """The places at which the table is not lower, each a b and a stand."""
    check_bank_table(web, table)
    found = []
    for b, highs in enumerate(all_highs(web, table)):
        for stand, part in enumerate(table[b]):
            if exceeds(part, bank_due_of(web.dues[stand])) or exceeds(part, price_by(web, highs, table[b], stand)):
                found.append((b, stand))
    return tuple(found)


def needed(web, highs, row, ranks, stand):
    """What the row for b must reach at the stand by its ranks."""
    if ranks[stand] == 0:
        return bank_due_of(web.dues[stand])
    stands = {other: True for other, rank in enumerate(ranks) if rank >= ranks[stand]}
    return price_by(web, highs, raised_row(row, stands), stand)


def bank_upper(web, table, ranks):
    """The places at which the table with the ranks is not upper, each a b and a stand."""
    check_bank_ranked(web, table, ranks)
    found = []
    for b, highs in enumerate(all_highs(web, table)):
        for stand, part in enumerate(table[b]):
            falls = b > 0 and exceeds(table[b - 1][stand], part)
            if falls or exceeds(needed(web, highs, table[b], ranks[b], stand), part):
                found.append((b, stand))
    return tuple(found)


def bank_fallen(web, highs, row):
    """The ranks of the row for b, None at the stands of its rest."""
    left = {stand: True for stand, part in enumerate(row) if exceeds(bank_due_of(web.dues[stand]), part)}
    ranks = [None if stand in left else 0 for stand in range(web.size)]
    done = 0
    gone = bank_leavers(web, highs, row, left)
    while gone:
        done += 1
        for stand in gone:
            ranks[stand] = done
            del left[stand]
        gone = bank_leavers(web, highs, row, left)
    return tuple(ranks)


def bank_leavers(web, highs, row, left):
    """The stands left over whose bank price, with them raised by 1, is at most their number."""
    raised = raised_row(row, left)
    return [stand for stand in left if not exceeds(price_by(web, highs, raised, stand), row[stand])]


def fallen_table(web, table):
    """The ranks of each row of a right bank table, None at the places of the rest."""
    return tuple([bank_fallen(web, highs, table[b]) for b, highs in enumerate(all_highs(web, table))])


def bank_falling(web, table):
    """The ranks of each row of the table, with None at the places of the rest, and the rest."""
    check_bank_table(web, table)
    ranks = fallen_table(web, table)
    rest = [(b, stand) for b, row in enumerate(ranks) for stand, rank in enumerate(row) if rank is None]
    return (ranks, tuple(rest))
