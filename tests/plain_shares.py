"""Plain readings of [91] to [98] with fractions of the standard library."""

from fractions import Fraction
from itertools import permutations

from pursewebs.share import Share


def fractions(shares):
    return tuple(Fraction(share.top, share.bottom) for share in shares)


def shares(told):
    return tuple(Share(Fraction(one).numerator, Fraction(one).denominator) for one in told)


def part(web, v):
    return Fraction(0 if web.dues[v] and web.dues[v][0] == "chips" else 1)


def low(web, r, v):
    return min(r[w] for w in web.first[v])


def high(web, r, v):
    return max(r[w] for w in web.second[v])


def mean(web, r, v):
    if not web.first[v]:
        return Fraction(1)
    lo, hi = low(web, r, v), high(web, r, v)
    return (lo + max(lo, hi)) / 2 if web.marks[v] == 1 else (min(lo, hi) + hi) / 2


def throw_rows(web, throws):
    rows = [tuple(part(web, v) for v in range(web.size))]
    for _ in range(throws):
        rows.append(tuple(min(part(web, v), mean(web, rows[-1], v)) for v in range(web.size)))
    return rows


def is_goal(web, v):
    return web.dues[v] is not None and web.dues[v][0] == "chips"


def chance_rows(web, throws):
    """By the words of [94]."""
    rows = [tuple(Fraction(1 if is_goal(web, v) else 0) for v in range(web.size))]
    for _ in range(throws):
        rows.append(tuple(next_chance(web, rows[-1], v) for v in range(web.size)))
    return rows


def next_chance(web, c, v):
    if is_goal(web, v):
        return Fraction(1)
    if not web.first[v]:
        return Fraction(0)
    best, worst = max(c[w] for w in web.first[v]), min(c[w] for w in web.second[v])
    if web.marks[v] == 1:
        # Heads: the first hand moves. Tails: the second hand moves or lets the first hand move.
        return best / 2 + min(best, worst) / 2
    return worst / 2 + max(best, worst) / 2


def lower_faults(web, r):
    return tuple(v for v in range(web.size) if not (0 <= r[v] <= part(web, v) and r[v] <= mean(web, r, v)))


def rest(web, r):
    """[96]"""
    left = {v for v in range(web.size) if r[v] != part(web, v)}
    ranks = [None if v in left else 0 for v in range(web.size)]
    number = 0
    while True:
        number += 1
        out = {v for v in left if not stays(web, r, v, left)}
        if not out:
            return tuple(ranks), tuple(sorted(left))
        for v in out:
            ranks[v] = number
        left -= out


def stays(web, r, v, left):
    if not web.first[v]:
        return True
    lo, hi = low(web, r, v), high(web, r, v)
    every = all(w in left for w in web.first[v] if r[w] == lo)
    some = any(w in left for w in web.second[v] if r[w] == hi)
    if web.marks[v] == 1:
        return every and (lo >= hi or some)
    return some and (lo > hi or every)


def is_exact(web, r):
    return all(r[v] >= 0 and r[v] == min(part(web, v), mean(web, r, v)) for v in range(web.size)) and not rest(web, r)[1]


def pick(steps, ranks, rank):
    lower = [w for w in steps if ranks[w] < rank]
    return min(lower or steps)


def used(web, r):
    """[97]"""
    ranks = rest(web, r)[0]
    found = []
    for v, rank in enumerate(ranks):
        if rank == 0:
            found.append(None)
            continue
        lo, hi = low(web, r, v), high(web, r, v)
        x = pick([w for w in web.first[v] if r[w] == lo], ranks, rank)
        y = pick([w for w in web.second[v] if r[w] == hi], ranks, rank)
        if lo < hi:
            found.append((x, y))
        elif web.marks[v] == 1 or (lo == hi and ranks[x] < rank):
            found.append((x, x))
        else:
            found.append((y, y))
    return tuple(found)


def matrix(web, pairs):
    """[98], with what each row of it gives as its last part."""
    paired = [v for v in range(web.size) if pairs[v] is not None]
    rows = []
    for v in paired:
        row = {w: Fraction(0) for w in paired}
        row[v] += 2
        given = Fraction(0)
        for w in pairs[v]:
            if w in row:
                row[w] -= 1
            else:
                given += part(web, w)
        rows.append([row[w] for w in paired] + [given])
    return paired, rows


def determinant(web, pairs):
    """The sum over all orders of the columns."""
    paired, rows = matrix(web, pairs)
    total = Fraction(0)
    for order in permutations(range(len(paired))):
        sign = 1
        for one in range(len(order)):
            for two in range(one):
                sign = -sign if order[two] > order[one] else sign
        product = Fraction(sign)
        for at, column in enumerate(order):
            product *= rows[at][column]
        total += product
    return total


def solves(web, pairs, r):
    """True if the row solves the equations of the pairs."""
    return all(2 * r[v] == r[pair[0]] + r[pair[1]] if pair else r[v] == part(web, v)
               for v, pair in enumerate(pairs))
