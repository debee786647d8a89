"""Plain readings of [109] to [119]: ties that go by a token."""

from tests import plain


def token_due(due, k):
    return 2 * plain.due_number(due, k)


def token_half(x, y):
    total = x + y if x % 2 == 0 else x + y + 1
    return (total - total % 2) // 2


def price(web, k, f, v):
    if not web.first[v]:
        return 2 * (k + 1)
    return token_half(plain.low(web, f, v), plain.high(web, f, v))


def rounds(web, k):
    """[112]"""
    rows = [tuple(token_due(due, k) for due in web.dues)]
    while True:
        row = rows[-1]
        after = tuple(min(token_due(web.dues[v], k), price(web, k, row, v)) for v in range(web.size))
        if after == row:
            return rows
        rows.append(after)


def token_row(web, k):
    return rounds(web, k)[-1]


def holdings(k):
    return range(2 * k + 2)


def bids(k, h, hand):
    """All bids (chips, takes) of a hand, by [110]."""
    chips = h // 2 if hand == 1 else k - h // 2
    holds = (h % 2 == 1) == (hand == 1)
    return [(bid, takes) for bid in range(chips + 1) for takes in ((False, True) if holds else (False,))]


def behind(h, one, two):
    """The hand that gets the move, and h behind it."""
    (p, p_takes), (q, q_takes) = one, two
    if p > q:
        return 1, h - 2 * p
    if p < q:
        return 2, h + 2 * q
    if h % 2 == 1:
        return (1, h - 2 * p - 1) if p_takes else (2, h + 2 * q)
    return (2, h + 2 * q + 1) if q_takes else (1, h - 2 * p)


def levels(web, k):
    """[111], up to the first level that equals the next one."""
    states = [(v, h) for v in range(web.size) for h in holdings(k)]
    zero = {(v, h) for v, h in states if h >= token_due(web.dues[v], k)}
    found = [zero]
    while True:
        after = zero | {(v, h) for v, h in states if web.first[v] and forced(web, k, found[-1], v, h)}
        if after == found[-1]:
            return found
        found.append(after)


def forced(web, k, level, v, h):
    return any(all(leads(web, level, v, h, one, two) for two in bids(k, h, 2)) for one in bids(k, h, 1))


def leads(web, level, v, h, one, two):
    hand, after = behind(h, one, two)
    if hand == 1:
        return any((w, after) in level for w in web.first[v])
    return all((w, after) in level for w in web.second[v])


def serves(web, k, f, v, h, side, bid):
    """[114], by all bids of the other hand."""
    for other in bids(k, h, 3 - side):
        hand, after = behind(h, *((bid, other) if side == 1 else (other, bid)))
        if side == 1:
            some = any if hand == 1 else all
            good = some([after >= f[w] for w in (web.first[v] if hand == 1 else web.second[v])])
        else:
            some = all if hand == 1 else any
            good = some([after < f[w] for w in (web.first[v] if hand == 1 else web.second[v])])
        if not good:
            return False
    return True


def size(bid):
    return 2 * bid[0] + (1 if bid[1] else 0)


def first_size(web, f, v, h):
    """[114], by trying sizes one by one."""
    hi = plain.high(web, f, v)
    if h % 2 == 0:
        return next(s for s in range(0, 10 ** 4, 2) if s >= max(0, hi - h - 1))
    return 0 if h >= hi else max(s for s in range(1, hi - h + 1, 2))


def second_size(web, f, v, h):
    lo = plain.low(web, f, v)
    if h % 2 == 1:
        return next(s for s in range(0, 10 ** 4, 2) if s >= max(0, h - lo))
    return 0 if h < lo else next(s for s in range(1, 10 ** 4, 2) if s >= h - lo)


def first_step(web, f, v):
    return min(w for w in web.first[v] if f[w] == plain.low(web, f, v))


def second_step(web, f, v):
    return min(w for w in web.second[v] if f[w] == plain.high(web, f, v))


def lower_faults(web, k, f):
    """[115]"""
    return tuple(v for v in range(web.size) if not (f[v] <= token_due(web.dues[v], k) and f[v] <= price(web, k, f, v)))


def layer(pair, number):
    i, j = pair
    if number < i:
        return 2
    return 1 if i <= number < j else 0


def with_layers(g, ranks, number):
    return tuple(part + layer(ranks[v], number) for v, part in enumerate(g))


def upper_faults(web, k, g, ranks):
    found = []
    for v, (i, j) in enumerate(ranks):
        due = token_due(web.dues[v], k)
        one = g[v] + 1 >= due if i == 0 else price(web, k, with_layers(g, ranks, i - 1), v) <= g[v] + 1
        two = g[v] >= due if j == 0 else price(web, k, with_layers(g, ranks, j - 1), v) <= g[v]
        if not (one and two):
            found.append(v)
    return tuple(found)


def falling(web, k, f):
    """[116]"""
    d = [max(0, min(2, token_due(web.dues[v], k) - f[v])) for v in range(web.size)]
    rows = [d]
    while True:
        raised = [f[v] + d[v] for v in range(web.size)]
        after = [max(0, min(d[v], price(web, k, raised, v) - f[v])) for v in range(web.size)]
        if after == d:
            break
        d = after
        rows.append(d)
    ranks = []
    for v in range(web.size):
        if d[v] != 0:
            ranks.append(None)
        else:
            ranks.append((min(at for at, row in enumerate(rows) if row[v] <= 1),
                          min(at for at, row in enumerate(rows) if row[v] == 0)))
    return tuple(ranks), tuple(v for v in range(web.size) if d[v] != 0)


def is_token_row(web, k, f):
    """By [117], for k of any size."""
    return not lower_faults(web, k, f) and falling(web, k, f)[1] == ()


def plan(web, k, g, ranks, v, h):
    """[118]: the bid and the step of the token plan at a stand with steps."""
    e = h - g[v]
    r = 0 if e < 0 else ranks[v][1] if e % 2 == 0 else ranks[v][0]
    if r == 0:
        return (0, False, min(web.first[v]))
    f = [part + 2 * (e // 2) for part in with_layers(g, ranks, r - 1)]
    told = first_size(web, f, v, h)
    return (min(told // 2, h // 2), told % 2 == 1, first_step(web, f, v))


def rank(g, ranks, v, h):
    e = h - g[v]
    return 0 if e < 0 else ranks[v][1] if e % 2 == 0 else ranks[v][0]


def passes(web, k, f, period, slopes):
    """What [119] asks of one token row f at k."""
    if max([due[1] for due in web.dues if due], default=0) > k + 1:
        return False
    ranks = falling(web, k, f)[0]
    for v in range(web.size):
        most = 0 if web.dues[v] and web.dues[v][0] == "chips" else 2 * period
        slope = slopes[v]
        if slope % 2:
            return False
        if not web.first[v]:
            if slope != most:
                return False
            continue
        lo, hi = min(slopes[w] for w in web.first[v]), max(slopes[w] for w in web.first[v])
        i, j = ranks[v]
        if j == 0 and not (slope == most and 2 * slope <= lo + hi):
            return False
        if j >= 1 and not (2 * slope == lo + hi and slope <= most and (i > 0 or slope == most)):
            return False
        least = min(f[w] for w in web.first[v] if slopes[w] == lo)
        greatest = max(f[w] for w in web.first[v] if slopes[w] == hi)
        for w in web.first[v]:
            if slopes[w] != lo and f[w] < least + 2:
                return False
            if slopes[w] != hi and f[w] > greatest - 2:
                return False
    return True


def is_table(web, start, period, rows):
    """[119]; rows reach at least to start + period."""
    slopes = [late - early for early, late in zip(rows[start], rows[start + period])]
    return all(passes(web, k, rows[k], period, slopes) for k in range(start, start + period))
