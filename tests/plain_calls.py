"""Plain readings of [136] to [149]: calls, visits and coming back for ever."""

from tests import plain


def due(web, k, v):
    return plain.due_number(web.dues[v], k)


def is_round(web, k, calls, x, y):
    """True if y is one of the rows that [137] looks at for the row x."""
    for v in range(web.size):
        if not web.first[v]:
            told = due(web, k, v)
        else:
            told = plain.price(web, k, x if v in calls else y, v)
        if y[v] != told:
            return False
    return True


def round_among_all(web, k, calls, x):
    """[137], with all rows; the one that is nowhere below any other."""
    found = [y for y in plain.rows(web.size, k + 1) if is_round(web, k, calls, x, y)]
    best = [y for y in found if all(one >= two for other in found for one, two in zip(y, other))]
    assert len(best) == 1
    return best[0]


def round_row(web, k, calls, x):
    """[137], from above: no part is lowered below that of any row that fits."""
    y = tuple(k + 1 for _ in range(web.size))
    while True:
        after = tuple(due(web, k, v) if not web.first[v] else plain.price(web, k, x if v in calls else y, v)
                      for v in range(web.size))
        if after == y:
            return y
        y = after


def visit_rows(web, k, calls):
    """[138]: X_0, X_1, .. up to the first one that equals its round."""
    found = [(0,) * web.size]
    while True:
        after = round_row(web, k, calls, found[-1])
        if after == found[-1]:
            return found
        found.append(after)


def for_ever(web, k, calls):
    return visit_rows(web, k, calls)[-1]


def least_rises(web, k, calls, row):
    """[140]: the sets S of stands such that row with 1 more at S equals its round at k, that are in all others."""
    found = [some for some in plain.subsets(range(web.size))
             if round_row(web, k, calls, plain.raised(row, some)) == plain.raised(row, some)]
    return [tuple(sorted(some)) for some in found if all(some <= other for other in found)]


def above_faults(web, k, calls, g, ranks):
    """[141]"""
    found = []
    for v in range(web.size):
        i = ranks[v]
        if not web.first[v]:
            right = g[v] >= due(web, k, v) and i == 0
        elif v in calls:
            right = g[v] >= plain.price(web, k, g, v) and i == 0
        else:
            some = {w for w in range(web.size) if ranks[w] >= i}
            right = (i == 0 and g[v] == k + 1) or (i >= 1 and plain.price(web, k, plain.raised(g, some), v) <= g[v])
        if not right:
            found.append(v)
    return tuple(found)


def lowered(row, stands):
    return tuple(part - (1 if v in stands else 0) for v, part in enumerate(row))


def below_faults(web, k, calls, f, counts):
    """[142]"""
    found = []
    for v in range(web.size):
        i = counts[v]
        if not web.first[v]:
            right = f[v] <= due(web, k, v) and i == 0
        else:
            some = {w for w in range(web.size) if (counts[w] >= i if v in calls else counts[w] > i)}
            right = (f[v] == 0 and i == 0) or (
                f[v] >= 1 and i >= 1 and f[v] <= plain.price(web, k, lowered(f, some), v))
        if not right:
            found.append(v)
    return tuple(found)


def rounds_out(web, left, leavers):
    found = [None if v in left else 0 for v in range(web.size)]
    number = 0
    while True:
        number += 1
        out = {v for v in left if leavers(left, v)}
        if not out:
            return tuple(found), tuple(sorted(left))
        for v in out:
            found[v] = number
        left = left - out


def ranks(web, k, calls, f):
    """[143]"""
    left = {v for v in range(web.size) if web.first[v] and v not in calls and f[v] < k + 1}
    return rounds_out(web, left, lambda some, v: plain.price(web, k, plain.raised(f, some), v) <= f[v])


def counts(web, k, calls, f):
    """[143]"""
    left = {v for v in range(web.size) if web.first[v] and f[v] >= 1}
    return rounds_out(web, left, lambda some, v: round_row(web, k, calls, lowered(f, some))[v] >= f[v])


def first_plan(web, k, calls, g, told, v, a):
    """[145]: the bid and the step."""
    e, i = a - g[v], told[v]
    if e < 0 or (v not in calls and i == 0):
        return 0, min(web.first[v])
    best = [w for w in web.first[v] if g[w] == plain.low(web, g, v)]
    h = [g[w] + e + (1 if v not in calls and told[w] >= i else 0) for w in range(web.size)]
    bid = max(0, plain.high(web, h, v) - a - (1 if web.marks[v] == 1 else 0))
    return min(bid, a), min(best if v in calls else [w for w in best if told[w] < i] or best)


def second_plan(web, k, calls, f, told, v, a):
    """[146]: the bid and the step."""
    e, i = f[v] - 1 - a, told[v]
    if e < 0 or i == 0:
        return 0, min(web.second[v])
    some = [w for w in range(web.size) if (told[w] >= i if v in calls else told[w] > i)]
    h = [f[w] - e - (1 if w in some else 0) for w in range(web.size)]
    bid = max(0, a - plain.low(web, h, v) + (1 if web.marks[v] == 1 else 0))
    return min(bid, k - a), min(w for w in web.second[v] if h[w] == plain.high(web, h, v))


def visit_sets(web, k, calls):
    """[147]: the sets for 0, 1, 2, .. up to the first one that equals the next one."""
    found = [set(plain.states(web, k))]
    while True:
        after = least_set(web, k, calls, found[-1])
        if after == found[-1]:
            return found
        found.append(after)


def least_set(web, k, calls, before):
    level = {(v, a) for v, a in plain.states(web, k) if not web.first[v] and a >= due(web, k, v)}
    while True:
        after = level | {(v, a) for v, a in plain.states(web, k) if web.first[v]
                         and plain.forced(web, k, before if v in calls else level, v, a, "sealed")}
        if after == level:
            return level
        level = after


def second_sets(web, k, calls):
    """The same for the second hand, to whom the ends are paid with k - a, and whose the visits are ([149])."""
    found = [set(plain.states(web, k))]
    while True:
        before = found[-1]
        level = {(v, a) for v, a in plain.states(web, k) if not web.first[v] and k - a >= due(web, k, v)}
        while True:
            after = level | {(v, a) for v, a in plain.states(web, k) if web.first[v] and any(
                all(plain.kept_leads(web, before if v in calls else level, v, a, p, q) for p in range(a + 1))
                for q in range(k - a + 1))}
            if after == level:
                break
            level = after
        if level == before:
            return found
        found.append(level)
