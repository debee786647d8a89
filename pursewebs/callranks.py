"""Ranks and counts: how a row shows from above and from below that it is the row for ever."""

from pursewebs.callchecks import checked_row_calls
from pursewebs.forever import CallHeights
from pursewebs.heights import Heights, bits_of, stands_of
from pursewebs.visits import MOST_CHIPS, free_stands, parts_at, round_of


def numbered(size, left, leaving):
    """The number of the round in which each stand left, 0 if it was not left over and None if it never left.

    left are the stands left over at first, leaving the stands that left in each round, both as bits.
    """
    found = [None if left >> stand & 1 else 0 for stand in range(size)]
    for before, gone in enumerate(leaving):
        for stand in stands_of(gone):
            found[stand] = before + 1
    return tuple(found)


def with_rest(numbers):
    """The numbers, and the set of the stands that have none."""
    return (numbers, tuple([stand for stand, number in enumerate(numbers) if number is None]))


def ranks_of(web, k, calls, row):
    """The ranks of a right row, None at the stands of the rest."""
    heights = Heights(web, row)
    left = heights.below(parts_at(web, free_stands(web, calls), k + 1))
    return numbered(web.size, left, heights.leaving(left))


def above_zero(web, row):
    """The stands with steps at which the row is not 0."""
    return [stand for stand in web.moving if row[stand] >= 1]


def counts_of(web, k, calls, row):
    """The counts of a right row, None at the stands of the rest."""
    left = above_zero(web, row)
    begin = bits_of(left)
    leaving = []
    gone = count_leavers(web, k, calls, row, left)
    while gone:
        leaving.append(bits_of(gone))
        left = [stand for stand in left if stand not in gone]
        gone = count_leavers(web, k, calls, row, left)
    return numbered(web.size, begin, leaving)


def count_leavers(web, k, calls, row, left):
    """The stands left over at which the round of the row that is lowered by 1 at them is not below the row."""
    after = round_of(web, k, calls, [part - 1 if stand in left else part for stand, part in enumerate(row)])
    return [stand for stand in left if after[stand] >= row[stand]]


def counts_for_ever(web, calls, row):
    """The counts of a row for ever, for which no round needs to be found anew."""
    left = bits_of(above_zero(web, row))
    return numbered(web.size, left, CallHeights(web, calls, row).counted(left))


def call_ranks(web, k, calls, row):
    """The ranks of the row, with None at the stands of the rest, and the rest."""
    stands = checked_row_calls(web, k, calls, row, 1, MOST_CHIPS)
    return with_rest(ranks_of(web, k, stands, row))


def call_counts(web, k, calls, row):
    """The counts of the row, with None at the stands of the rest, and the rest."""
    stands = checked_row_calls(web, k, calls, row, 1, MOST_CHIPS)
    return with_rest(counts_of(web, k, stands, row))
