"""Plain readings of the document's words, as slow and as literal as need be.

Nothing here uses the program but the four lists of a Web.
"""

import random
from itertools import combinations, product

from pursewebs.web import Web


# [9] and [17] to [20]

def due_number(due, k):
    if due is None:
        return k + 1
    word, x = due
    return {"chips": min(x, k + 1), "less": max(0, k + 1 - x)}[word]


def half(mark, x, y):
    top = x + max(x, y) if mark == 1 else min(x, y) + y + 1
    return (top - top % 2) // 2


def low(web, row, v):
    return min(row[w] for w in web.first[v])


def high(web, row, v):
    return max(row[w] for w in web.second[v])


def price(web, k, row, v):
    if not web.first[v]:
        return k + 1
    return half(web.marks[v], low(web, row, v), high(web, row, v))


def next_row(web, k, row):
    return tuple(min(due_number(web.dues[v], k), price(web, k, row, v)) for v in range(web.size))


def first_gets(web, v, p, q):
    return p > q or (p == q and web.marks[v] == 1)


def good_for_first(web, row, v, a, p, q):
    if first_gets(web, v, p, q):
        return any(a - p >= row[w] for w in web.first[v])
    return all(a + q >= row[w] for w in web.second[v])


def first_serving(web, k, row, v, a):
    return tuple(p for p in range(a + 1)
                 if all(good_for_first(web, row, v, a, p, q) for q in range(k - a + 1)))


def second_serving(web, k, row, v, a):
    return tuple(q for q in range(k - a + 1)
                 if all(not good_for_first(web, row, v, a, p, q) for p in range(a + 1)))


# [32], [33] and [42]

def states(web, k):
    return [(v, a) for v in range(web.size) for a in range(k + 1)]


def leads(web, level, v, a, p, q):
    if first_gets(web, v, p, q):
        return any((w, a - p) in level for w in web.first[v])
    return all((w, a + q) in level for w in web.second[v])


def forced(web, k, level, v, a, order):
    ps, qs = range(a + 1), range(k - a + 1)
    if order == "second":
        return all(any(leads(web, level, v, a, p, q) for p in ps) for q in qs)
    return any(all(leads(web, level, v, a, p, q) for q in qs) for p in ps)


def levels(web, k, order="sealed"):
    """Level 0, 1, .. up to the first one that equals the next one."""
    zero = {(v, a) for v, a in states(web, k) if a >= due_number(web.dues[v], k)}
    found = [zero]
    while True:
        after = zero | {(v, a) for v, a in states(web, k)
                        if web.first[v] and forced(web, k, found[-1], v, a, order)}
        if after == found[-1]:
            return found
        found.append(after)


def numbers(web, k):
    won = levels(web, k)[-1]
    return tuple(min([a for a in range(k + 1) if (v, a) in won], default=k + 1) for v in range(web.size))


def kept_leads(web, level, v, a, p, q):
    if first_gets(web, v, p, q):
        return all((w, a - p) in level for w in web.first[v])
    return any((w, a + q) in level for w in web.second[v])


def second_claims(web, k):
    """The states of the levels of keeping."""
    zero = {(v, a) for v, a in states(web, k) if k - a >= due_number(web.dues[v], k)}
    level = zero
    while True:
        after = zero | {(v, a) for v, a in states(web, k) if web.first[v]
                        and any(all(kept_leads(web, level, v, a, p, q) for p in range(a + 1))
                                for q in range(k - a + 1))}
        if after == level:
            return level
        level = after


# [12], [36] and [46] to [48]

def subsets(stands):
    stands = list(stands)
    return [set(some) for many in range(len(stands) + 1) for some in combinations(stands, many)]


def may_stay_off(web, v, kept):
    if web.dues[v] is not None:
        return False
    firsts = all(w in kept for w in web.first[v])
    if not web.first[v] or web.marks[v] == 1:
        return firsts
    return firsts and any(w in kept for w in web.second[v])


def kept_off(web):
    right = [kept for kept in subsets(range(web.size)) if all(may_stay_off(web, v, kept) for v in kept)]
    return tuple(sorted(set().union(*right)))


def raised(row, stands):
    return tuple(part + (1 if v in stands else 0) for v, part in enumerate(row))


def can_rise(web, k, row, stands):
    after = raised(row, stands)
    return all(row[v] + 1 <= due_number(web.dues[v], k) and row[v] + 1 <= price(web, k, after, v) for v in stands)


def rise(web, k, row):
    return tuple(sorted(set().union(*[some for some in subsets(range(web.size)) if can_rise(web, k, row, some)])))


def lower_faults(web, k, row):
    return tuple(v for v in range(web.size) if not (
        0 <= row[v] <= k + 1 and row[v] <= due_number(web.dues[v], k) and row[v] <= price(web, k, row, v)))


def upper_faults(web, k, row, ranks):
    found = []
    for v in range(web.size):
        if ranks[v] == 0:
            right = row[v] >= due_number(web.dues[v], k)
        else:
            some = {w for w in range(web.size) if ranks[w] >= ranks[v]}
            right = price(web, k, raised(row, some), v) <= row[v]
        if not right:
            found.append(v)
    return tuple(found)


def falling(web, k, row):
    left = {v for v in range(web.size) if row[v] < due_number(web.dues[v], k)}
    ranks = [None if v in left else 0 for v in range(web.size)]
    number = 0
    while True:
        number += 1
        out = {v for v in left if price(web, k, raised(row, left), v) <= row[v]}
        if not out:
            return tuple(ranks), tuple(sorted(left))
        for v in out:
            ranks[v] = number
        left -= out


# Webs and rows to go through

def rows(size, most):
    """All rows of this size with parts in 0 .. most."""
    return list(product(range(most + 1), repeat=size))


def all_webs(size, dues):
    """All webs of this size whose dues are among these."""
    sets = [[w for w in some] for some in subsets(range(size)) if some]
    ways = [([], [])] + [(one, two) for one in sets for two in sets]
    for chosen in product(ways, repeat=size):
        first = [one for one, _ in chosen]
        second = [two for _, two in chosen]
        for marks in product((1, 2), repeat=size):
            for told in product(dues, repeat=size):
                yield Web(first, second, marks, told)


def some_webs(size, many, seed, dues=None):
    """Some webs of this size, always the same ones."""
    chance = random.Random(seed)
    dues = dues or [None, None, None, ("chips", 0), ("chips", 1), ("chips", 2), ("chips", 5), ("less", 0), ("less", 1),
                    ("less", 2)]
    stands = list(range(size))
    for _ in range(many):
        first, second = [], []
        for _ in stands:
            end = chance.random() < 0.3
            first.append([] if end else chance.sample(stands, chance.randint(1, min(3, size))))
            second.append([] if end else chance.sample(stands, chance.randint(1, min(3, size))))
        yield Web(first, second, [chance.choice((1, 2)) for _ in stands], [chance.choice(dues) for _ in stands])
