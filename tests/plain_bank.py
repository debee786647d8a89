"""Plain readings of [121] to [125]: bids are paid to a bank."""

from tests import plain


def claims(web, v, a):
    """[121]"""
    return web.dues[v] is not None and web.dues[v][0] == "chips" and a >= web.dues[v][1]


def levels(web, most_a, most_b):
    """[122], for all purses up to these; bids never make a purse greater."""
    states = [(v, a, b) for v in range(web.size) for a in range(most_a + 1) for b in range(most_b + 1)]
    zero = {(v, a, b) for v, a, b in states if claims(web, v, a)}
    found = [zero]
    while True:
        after = zero | {(v, a, b) for v, a, b in states if web.first[v] and forced(web, found[-1], v, a, b)}
        if after == found[-1]:
            return found
        found.append(after)


def forced(web, level, v, a, b):
    return any(all(leads(web, level, v, a, b, p, q) for q in range(b + 1)) for p in range(a + 1))


def leads(web, level, v, a, b, p, q):
    if plain.first_gets(web, v, p, q):
        return any((w, a - p, b) in level for w in web.first[v])
    return all((w, a, b - q) in level for w in web.second[v])


def numbers(web, most_a, most_b):
    """For each b the least purse up to most_a of some level, None if there is none."""
    won = levels(web, most_a, most_b)[-1]
    return tuple(tuple(min([a for a in range(most_a + 1) if (v, a, b) in won], default=None) for v in range(web.size))
                 for b in range(most_b + 1))


def due(told):
    return told[1] if told and told[0] == "chips" else None


def least(parts):
    return min([part for part in parts if part is not None], default=None)


def greatest(parts):
    parts = list(parts)
    return None if None in parts else max(parts)


def plus(x, part):
    return None if part is None else x + part


def price(web, rows, row, b, v):
    """[123], for each x by its words."""
    if not web.first[v]:
        return None
    told = list(rows) + [row]
    lo = least(row[w] for w in web.first[v])

    def hi(j):
        return 0 if j == -1 else greatest(told[j][w] for w in web.second[v])

    if web.marks[v] == 1:
        return least([greatest([plus(x, lo), hi(b - x - 1)]) for x in range(b + 1)])
    return least([hi(b)] + [greatest([plus(x, lo), hi(b - x)]) for x in range(1, b + 2)])


def rounds(web, rows):
    """[124]"""
    found = [tuple(due(told) for told in web.dues)]
    while True:
        row = found[-1]
        after = tuple(least([due(web.dues[v]), price(web, rows, row, len(rows), v)]) for v in range(web.size))
        if after == row:
            return found
        found.append(after)


def table(web, most):
    found = []
    for _ in range(most + 1):
        found.append(rounds(web, found)[-1])
    return tuple(found)


def at_most(one, two):
    """True if one is not greater than two, None being greater than every integer."""
    return two is None or (one is not None and one <= two)


# [126] to [131]

def hi(web, table, row, b, v, j):
    """The greatest part over the second steps in the row for j, row being that for b; 0 for j = -1."""
    if j == -1:
        return 0
    told = row if j == b else table[j]
    return greatest(told[w] for w in web.second[v])


def asked(web, table, row, b, v):
    """[126]: the pairs of a bid x and the purse that it asks for."""
    lo = least(row[w] for w in web.first[v])
    if web.marks[v] == 1:
        return [(x, greatest([plus(x, lo), hi(web, table, row, b, v, b - x - 1)])) for x in range(b + 1)]
    told = [(x, greatest([plus(x, lo), hi(web, table, row, b, v, b - x)])) for x in range(1, b + 2)]
    return [(0, hi(web, table, row, b, v, b))] + told


def first_told(web, table, row, v, a, b):
    bids = [x for x, need in asked(web, table, row, b, v) if need is not None and a >= need]
    lo = least(row[w] for w in web.first[v])
    return (min(bids, default=0), min(w for w in web.first[v] if row[w] == lo))


def second_told(web, table, v, a, b):
    lo = least(table[b][w] for w in web.first[v])
    q = 0 if lo is None else min(b, max(0, a - lo + 1) if web.marks[v] == 1 else max(0, a - lo))
    most = greatest(table[b - q][w] for w in web.second[v])
    return (q, min(w for w in web.second[v] if table[b - q][w] == most))


def reaches(table, w, a, b):
    return table[b][w] is not None and a >= table[b][w]


def serves(web, table, v, a, b, side, bid):
    """[127], reply by reply."""
    if side == 1:
        return all(any(reaches(table, w, a - bid, b) for w in web.first[v]) if plain.first_gets(web, v, bid, q)
                   else all(reaches(table, w, a, b - q) for w in web.second[v]) for q in range(b + 1))
    return all(all(not reaches(table, w, a - p, b) for w in web.first[v]) if plain.first_gets(web, v, p, bid)
               else any(not reaches(table, w, a, b - bid) for w in web.second[v]) for p in range(a + 1))


def lower_faults(web, rows):
    return tuple((b, v) for b in range(len(rows)) for v in range(web.size)
                 if not (at_most(rows[b][v], due(web.dues[v])) and at_most(rows[b][v], price(web, rows[:b], rows[b], b, v))))


def raised(row, stands):
    return tuple(plus(1, part) if v in stands else part for v, part in enumerate(row))


def upper_holds(web, rows, ranks, b, v):
    if b >= 1 and not at_most(rows[b - 1][v], rows[b][v]):
        return False
    if ranks[b][v] == 0:
        return at_most(due(web.dues[v]), rows[b][v])
    some = [w for w in range(web.size) if ranks[b][w] >= ranks[b][v]]
    return at_most(price(web, rows[:b], raised(rows[b], some), b, v), rows[b][v])


def upper_faults(web, rows, ranks):
    return tuple((b, v) for b in range(len(rows)) for v in range(web.size) if not upper_holds(web, rows, ranks, b, v))


def falling(web, rows):
    found, rest = [], []
    for b, row in enumerate(rows):
        left = {v for v in range(web.size) if not at_most(due(web.dues[v]), row[v])}
        ranks = [None if v in left else 0 for v in range(web.size)]
        number = 0
        while True:
            number += 1
            after = raised(row, left)
            out = {v for v in left if at_most(price(web, rows[:b], after, b, v), row[v])}
            if not out:
                break
            for v in out:
                ranks[v] = number
            left -= out
        found.append(tuple(ranks))
        rest += [(b, v) for v in sorted(left)]
    return tuple(found), tuple(rest)


def plan(web, rows, ranks, v, a, b):
    """[131]: the bid and the step of the bank plan."""
    i = ranks[b][v]
    if not reaches(rows, v, a, b) or i == 0:
        return (0, min(web.first[v]))
    e = a - rows[b][v]
    row = tuple(plus(e + (1 if ranks[b][w] >= i else 0), part) for w, part in enumerate(rows[b]))
    return first_told(web, rows, row, v, a, b)
