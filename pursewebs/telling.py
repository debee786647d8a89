"""What a table tells far behind its rows: one of its rows, and its slopes some times."""


def told_place(start, period, k):
    """The number of the row that tells k, and how often the slopes are added to it."""
    if k < start + period:
        return (k, 0)
    return (start + (k - start) % period, (k - start) // period)


def told_row(start, period, slopes, rows, k):
    """The row told at k."""
    place, times = told_place(start, period, k)
    return tuple([number + times * slopes[stand] for stand, number in enumerate(rows[place])])
