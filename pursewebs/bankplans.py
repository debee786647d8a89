"""What both hands do when bids are paid to a bank, by a bank table."""

from pursewebs.bankpaper import check_bank_ranked, check_table_kinds, check_table_numbers, check_table_size
from pursewebs.bankrows import bank_due_of, bank_high, least_of
from pursewebs.checks import check_moving, check_stand
from pursewebs.whole import GREATEST, check_least, check_most, check_one_or_two, check_range, check_whole


def reaches(purse, part):
    """True if the purse is at least this part of a bank row."""
    return part is not None and purse >= part


def bank_low(web, row, stand):
    """The least part of the row over the first steps of a stand with steps."""
    return least_of([row[step] for step in web.first[stand]])


def asked_purse(web, table, row, b, stand, x):
    """The purse that the bid x asks for, by the rows for 0 .. b-1 of the table and the row for b; None if none does."""
    if x == 0 and web.marks[stand] == 2:
        return bank_high(web, row, stand)
    low = bank_low(web, row, stand)
    before = b - x + web.marks[stand] - 2
    high = bank_high(web, table[before], stand) if before >= 0 else 0
    return None if low is None or high is None else max(x + low, high)


def bank_first_told(web, table, row, b, stand, a):
    """The told bid and step of the first hand, row being taken for the row for b."""
    low = bank_low(web, row, stand)
    step = min([step for step in web.first[stand] if row[step] == low])
    for x in range(b + web.marks[stand]):
        if reaches(a, asked_purse(web, table, row, b, stand, x)):
            return (x, step)
    return (0, step)


def bank_second_told(web, table, b, stand, a):
    """The told bid and step of the second hand."""
    low = bank_low(web, table[b], stand)
    bid = 0
    if low is not None:
        bid = min(b, max(0, a - low + 2 - web.marks[stand]))
    row = table[b - bid]
    high = bank_high(web, row, stand)
    return (bid, min([step for step in web.second[stand] if row[step] == high]))


def check_bank_state(web, table, stand, a, b):
    """Raise WrongNumber if these are no state against the bank table."""
    check_stand(web, stand)
    check_least(a, 0)
    check_range(b, 0, len(table) - 1)


def check_bank_call(web, table, stand, a, b):
    """Raise what is wrong with the arguments of bank_first and bank_second."""
    check_table_kinds(web, table)
    check_whole(stand, a, b)
    check_table_numbers(web, table)
    check_bank_state(web, table, stand, a, b)
    check_moving(web, stand)
    check_table_size(table)
    check_most(a, GREATEST)


def bank_first(web, table, stand, a, b):
    """The told bid and step of the first hand."""
    check_bank_call(web, table, stand, a, b)
    return bank_first_told(web, table, table[b], b, stand, a)


def bank_second(web, table, stand, a, b):
    """The told bid and step of the second hand."""
    check_bank_call(web, table, stand, a, b)
    return bank_second_told(web, table, b, stand, a)


def bank_serves(web, table, stand, a, b, side, bid):
    """True if the bid of the hand side serves it against the table."""
    check_table_kinds(web, table)
    check_whole(stand, a, b, side, bid)
    check_table_numbers(web, table)
    check_bank_state(web, table, stand, a, b)
    check_one_or_two(side)
    check_range(bid, 0, a if side == 1 else b)
    check_moving(web, stand)
    check_table_size(table)
    check_most(a, GREATEST)
    if side == 1:
        return first_is_served(web, table, stand, a, b, bid)
    return second_is_served(web, table, stand, a, b, bid)


def first_is_served(web, table, stand, a, b, p):
    """True if the bid p serves the first hand."""
    least = p + 2 - web.marks[stand]
    # With bids from least on the second hand gets the move, with lesser ones the first hand does.
    if least > 0 and not reaches(a - p, bank_low(web, table[b], stand)):
        return False
    return all([reaches(a, bank_high(web, table[b - q], stand)) for q in range(least, b + 1)])


def second_is_served(web, table, stand, a, b, q):
    """True if the bid q serves the second hand."""
    least = q + web.marks[stand] - 1
    # With bids from least on the first hand gets the move, and keeps most of its purse with the least of them.
    if least <= a and reaches(a - least, bank_low(web, table[b], stand)):
        return False
    return least == 0 or not reaches(a, bank_high(web, table[b - q], stand))


class BankPlan:
    """The first hand's plan of a bank table with ranks."""

    def __init__(self, web, table, ranks):
        check_bank_ranked(web, table, ranks)
        self._web = web
        self._rows = tuple([tuple(row) for row in table])
        self._ranks = tuple([tuple(row) for row in ranks])

    @property
    def web(self):
        return self._web

    @property
    def rows(self):
        return self._rows

    @property
    def ranks(self):
        return self._ranks

    def __call__(self, stand, a, b):
        self._check_numbers(stand, a, b)
        check_moving(self._web, stand)
        check_most(a, GREATEST)
        row = self._rows[b]
        ranks = self._ranks[b]
        rank = ranks[stand]
        if rank == 0 or not reaches(a, row[stand]):
            return (0, self._web.first[stand][0])
        extra = a - row[stand]
        raised = [None if part is None else part + extra + (1 if ranks[place] >= rank else 0)
                  for place, part in enumerate(row)]
        return bank_first_told(self._web, self._rows, raised, b, stand, a)

    def claims(self, stand, a, b):
        """True if the plan claims at the state."""
        self._check_state(stand, a, b)
        return self._ranks[b][stand] == 0 and reaches(a, bank_due_of(self._web.dues[stand]))

    def falls(self, stand, a, b):
        """The tuple that falls with each move, None if the purse is below the number."""
        self._check_state(stand, a, b)
        number = self._rows[b][stand]
        return (b, number - a, self._ranks[b][stand]) if reaches(a, number) else None

    def _check_numbers(self, stand, a, b):
        """Raise WrongKind, then WrongNumber, if these are no state."""
        check_whole(stand, a, b)
        check_bank_state(self._web, self._rows, stand, a, b)

    def _check_state(self, stand, a, b):
        """Raise what is wrong with a state that may be at an end."""
        self._check_numbers(stand, a, b)
        check_most(a, GREATEST)
