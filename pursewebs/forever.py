"""Rows for ever: the purses with which the first hand comes back to the calls for ever, or to a paid end."""

from pursewebs.callchecks import check_calls_move, called_stands, checked_calls, checked_row_calls
from pursewebs.errors import TooMuch
from pursewebs.heights import Heights, bits_of, stands_of
from pursewebs.prices import dues_at
from pursewebs.visits import MOST_CHIPS, free_stands
from pursewebs.web import check_web

MOST_ROW_CHIPS = 2000


class CallHeights:
    """A row of heights, and which stands the round of a row that is little greater holds higher.

    Sets of stands are integers with one bit for each stand, as in Heights.
    """

    def __init__(self, web, calls, row):
        self._web = web
        self._called = bits_of(calls)
        self._free = bits_of(free_stands(web, calls))
        self._ends = bits_of(web.ends)
        self._heights = Heights(web, row)

    def told(self):
        """The row, a tuple."""
        return self._heights.told()

    def higher(self, raised, ends):
        """The stands that the round of the row with 1 more at the raised stands has higher than the row.

        ends are the ends that it has higher. No part of the round may be below the row, or more than 1 above it.
        """
        lifted = ends | self._heights.rising(self._called, raised)
        return lifted | self._heights.staying(self._free, lifted)

    def risen(self, k):
        """The stands at which the row for ever at k is greater than the row, if that is the one at k-1."""
        ends = self._ends & self._heights.below(dues_at(self._web, k))
        raised = 0
        after = self.higher(0, ends)
        # For other rows nothing is promised but an end of the search.
        while (after | raised) != raised:
            raised = after | raised
            after = self.higher(raised, ends)
        return raised

    def lift(self, k):
        """Make the row for ever at k-1, or the row of zeros for k = 0, the row for ever at k."""
        self._heights.lift(self.risen(k))

    def counted(self, left):
        """The stands that leave in the rounds 1, 2, .. of finding counts, each time as bits.

        left are the stands left over at first. The row, a row for ever, stands here for the row that is 1 less
        everywhere: only where parts differ counts, and the round of that row with 1 more at some stands is
        nowhere below it and nowhere more than 1 above it.
        """
        every = self._called | self._free | self._ends
        found = []
        gone = left & self.higher(every & ~left, self._ends)
        while gone:
            found.append(gone)
            left = left & ~gone
            gone = left & self.higher(every & ~left, self._ends)
        return found


def each_row_for_ever(web, calls):
    """The rows for ever at k = 0, 1, 2, .. without end."""
    heights = CallHeights(web, calls, [0] * web.size)
    k = 0
    while True:
        heights.lift(k)
        yield heights.told()
        k += 1


def row_for_ever(web, k, calls):
    """The row for ever at a right k."""
    heights = CallHeights(web, calls, [0] * web.size)
    for chips in range(k + 1):
        heights.lift(chips)
    return heights.told()


def forever_row(web, k, calls):
    """The row for ever at k."""
    stands = checked_calls(web, k, calls, MOST_CHIPS)
    return row_for_ever(web, k, stands)


def forever_rows(web, calls):
    """The rows for ever at k = 0, 1, 2, .."""
    check_web(web)
    stands = called_stands(web, calls)
    check_calls_move(web, stands)
    for k, row in enumerate(each_row_for_ever(web, stands)):
        if k > MOST_ROW_CHIPS:
            raise TooMuch("the next row has too many chips")
        yield row


def forever_rise(web, k, calls, row):
    """The stands at which the row for ever at k is greater than row, if row is the one at k-1."""
    stands = checked_row_calls(web, k, calls, row, 0, MOST_ROW_CHIPS)
    return stands_of(CallHeights(web, stands, row).risen(k))
