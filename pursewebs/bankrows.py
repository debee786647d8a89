"""Bank numbers: bids are paid to a bank. None is greater than every integer here."""

from pursewebs.checks import check_list, check_stand
from pursewebs.dues import check_due, check_due_range, check_due_size
from pursewebs.web import check_web
from pursewebs.whole import check_least, check_most, check_size, check_whole

MOST_CHIPS = 60
MOST_DUE = 10 ** 6


def bank_due_of(due):
    """The bank due number of a right due."""
    return due[1] if due is not None and due[0] == "chips" else None


def bank_due(due):
    """The bank due number, an integer or None."""
    check_due(due)
    check_due_range(due)
    check_due_size(due)
    return bank_due_of(due)


def least_of(parts):
    """The least of some parts that are integers or None."""
    return min([number for number in parts if number is not None], default=None)


def greatest_of(parts):
    """The greatest of some parts that are integers or None."""
    return None if None in parts else max(parts)


def bank_high(web, row, stand):
    """The greatest part of the row over the second steps of a stand with steps."""
    return greatest_of([row[step] for step in web.second[stand]])


def bank_price_of(mark, low, highs):
    """The bank price of a stand with steps: low is lo, highs are hi(-1), hi(0), .., hi(b)."""
    # At mark 2 the second hand has the ties: the first hand has to bid 1 more to get the move, or never does.
    more = 0 if mark == 1 else 1
    found = [] if mark == 1 else [highs[-1]]
    if low is not None:
        found.extend([max(low + x + more, high) for x, high in enumerate(highs[-2::-1]) if high is not None])
    return least_of(found)


def check_bank_kinds(rows):
    """Raise WrongKind if rows is no list of bank rows."""
    check_list(rows)
    for row in rows:
        check_bank_row_kind(row)


def check_bank_row_kind(row):
    """Raise WrongKind if row is no list of integers and None."""
    check_list(row)
    for number in row:
        if number is not None:
            check_whole(number)


def check_bank_row(web, row):
    """Raise WrongNumber if a list of integers and None is no bank row of the web."""
    check_size(row, web.size)
    for number in row:
        if number is not None:
            check_least(number, 0)


def bank_price(web, rows, row, b, stand):
    """The bank price of the stand by the rows for 0 .. b-1 and the row for b, an integer or None."""
    check_web(web)
    check_bank_kinds(rows)
    check_bank_row_kind(row)
    check_whole(b, stand)
    check_size(rows, b)
    for told in (*rows, row):
        check_bank_row(web, told)
    check_stand(web, stand)
    check_most(b, MOST_CHIPS)
    if not web.first[stand]:
        return None
    highs = [0] + [bank_high(web, told, stand) for told in (*rows, row)]
    return bank_price_of(web.marks[stand], least_of([row[step] for step in web.first[stand]]), highs)


def next_bank_row(web, row, highs):
    """The row of the next round, highs having hi(-1) .. hi(b-1) of each stand."""
    found = []
    for stand, due in enumerate(web.dues):
        price = None
        if web.first[stand]:
            low = least_of([row[step] for step in web.first[stand]])
            price = bank_price_of(web.marks[stand], low, highs[stand] + [bank_high(web, row, stand)])
        found.append(least_of([bank_due_of(due), price]))
    return tuple(found)


def with_highs(web, highs, row):
    """The highs of each stand, with those of one bank row more."""
    return [told + [bank_high(web, row, stand)] if web.first[stand] else told for stand, told in enumerate(highs)]


def rounds_by_highs(web, highs):
    """The rows of all rounds, highs having hi(-1) .. hi(b-1) of each stand."""
    rows = [tuple([bank_due_of(due) for due in web.dues])]
    after = next_bank_row(web, rows[0], highs)
    while after != rows[-1]:
        rows.append(after)
        after = next_bank_row(web, after, highs)
    return rows


def bank_rounds(web, rows):
    """The rows of the rounds for b = len(rows), by the bank rows for 0 .. b-1."""
    check_web(web)
    check_bank_kinds(rows)
    for row in rows:
        check_bank_row(web, row)
    check_most(len(rows), MOST_CHIPS)
    check_most(web.greatest_due, MOST_DUE)
    highs = [[0] for _ in range(web.size)]
    for row in rows:
        highs = with_highs(web, highs, row)
    for row in rounds_by_highs(web, highs):
        yield row


def bank_rows(web, most):
    """The table of the bank numbers up to most."""
    check_web(web)
    check_whole(most)
    check_least(most, 0)
    check_most(most, MOST_CHIPS)
    check_most(web.greatest_due, MOST_DUE)
    highs = [[0] for _ in range(web.size)]
    found = []
    for _ in range(most + 1):
        row = rounds_by_highs(web, highs)[-1]
        found.append(row)
        highs = with_highs(web, highs, row)
    return tuple(found)
