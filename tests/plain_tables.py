"""Plain readings of [76] to [83]: number rows by rounds, purses by those rows, passing and tables."""

from tests import plain


def number_row(web, k):
    """By [34]: the last of the rounds of the next row."""
    row = tuple(plain.due_number(due, k) for due in web.dues)
    after = plain.next_row(web, k, row)
    while after != row:
        row, after = after, plain.next_row(web, k, after)
    return row


def number_rows(web, many):
    return [number_row(web, k) for k in range(many)]


def word(rows, v):
    """[76], by the number rows at k = 0, 1, .."""
    return tuple(1 if row[v] > (rows[k - 1][v] if k else 0) else 0 for k, row in enumerate(rows))


def purse_against(rows, v, other, most):
    """[77]; rows reach at least to k = other + most."""
    return next((a for a in range(most + 1) if a >= rows[a + other][v]), None)


def due_slope(due, m):
    return 0 if due is not None and due[0] == "chips" else m


def slope_price_twice(web, m, slopes, v):
    """[78]"""
    if not web.first[v]:
        return 2 * m
    lo, hi = plain.low(web, slopes, v), plain.high(web, slopes, v)
    return lo + max(lo, hi) if web.marks[v] == 1 else min(lo, hi) + hi


def passes_at(web, k, f, ranks, m, s, v):
    """[79]"""
    c = max([due[1] for due in web.dues if due], default=0)
    if c > k + 1:
        return False
    twice, due = slope_price_twice(web, m, s, v), due_slope(web.dues[v], m)
    if ranks[v] == 0 and not (s[v] == due and 2 * s[v] <= twice):
        return False
    if ranks[v] >= 1 and not (2 * s[v] == twice and s[v] <= due):
        return False
    if not web.first[v]:
        return True
    low, high = plain.low(web, f, v), plain.high(web, f, v)
    slow, shigh = plain.low(web, s, v), plain.high(web, s, v)
    if any(f[w] == low and s[w] != slow for w in web.first[v]):
        return False
    if any(f[w] == high and s[w] != shigh for w in web.second[v]):
        return False
    return not (slow < shigh and not low < high) and not (slow > shigh and not low > high)


def pass_faults(web, k, f, ranks, m, s):
    return tuple(v for v in range(web.size) if not passes_at(web, k, f, ranks, m, s, v))


def judged(web, start, period, slopes, rows, ranks):
    """All places at which a table of these parts is not good, by [80] with [46], [47] and [79]."""
    found = []
    for k in range(start + period):
        faults = set(plain.lower_faults(web, k, rows[k])) | set(plain.upper_faults(web, k, rows[k], ranks[k]))
        if k >= start:
            faults |= set(pass_faults(web, k, rows[k], ranks[k], period, slopes))
        found += [(k, v) for v in sorted(faults)]
    return tuple(found)


def told(start, period, slopes, rows, k):
    """The row told at k, by the words of [80]."""
    if k < start + period:
        return tuple(rows[k])
    j = (k - start) // period
    i = start + (k - start) % period
    return tuple(part + j * slope for part, slope in zip(rows[i], slopes))


def is_number_row(web, k, row):
    """By [49], for k of any size."""
    return not plain.lower_faults(web, k, row) and plain.falling(web, k, row)[1] == ()


def small_webs(many, seed, sizes=(1, 2, 3, 4, 5)):
    """Small webs with ordinary dues."""
    dues = [None, None, None, None, ("chips", 0), ("chips", 0), ("chips", 3), ("chips", 9), ("less", 0), ("less", 2)]
    found = []
    for at, size in enumerate(sizes):
        found += list(plain.some_webs(size, many, seed + at, dues))
    return [web for web in found if len(web.moving) <= 6]
