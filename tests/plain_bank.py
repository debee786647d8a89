"""Plain readings of [121] to [125]: bids are paid to a bank."""

from tests import plain


def claims(web, v, a):
    """[121]"""
    return web.dues[v] is not None and web.dues[v][0] == "chips" and a >= web.dues[v][1]


def levels(web, most_a, most_b):
    """[122], for all purses up to these; bids never make a purse greater."""
    states = [(v, a, b) for v in range(web.size) for a in range(most_a + 1) for b in range(most_b + 1)]
    zero = {(v, a, b) for v, a, b in states if claims(web, v, a)}
    found = [zero]
    while True:
        after = zero | {(v, a, b) for v, a, b in states if web.first[v] and forced(web, found[-1], v, a, b)}
        if after == found[-1]:
            return found
        found.append(after)


def forced(web, level, v, a, b):
    return any(all(leads(web, level, v, a, b, p, q) for q in range(b + 1)) for p in range(a + 1))


def leads(web, level, v, a, b, p, q):
    if plain.first_gets(web, v, p, q):
        return any((w, a - p, b) in level for w in web.first[v])
    return all((w, a, b - q) in level for w in web.second[v])


def numbers(web, most_a, most_b):
    """For each b the least purse up to most_a of some level, None if there is none."""
    won = levels(web, most_a, most_b)[-1]
    return tuple(tuple(min([a for a in range(most_a + 1) if (v, a, b) in won], default=None) for v in range(web.size))
                 for b in range(most_b + 1))


def due(told):
    return told[1] if told and told[0] == "chips" else None


def least(parts):
    return min([part for part in parts if part is not None], default=None)


def greatest(parts):
    parts = list(parts)
    return None if None in parts else max(parts)


def plus(x, part):
    return None if part is None else x + part


def price(web, rows, row, b, v):
    """[123], for each x by its words."""
    if not web.first[v]:
        return None
    told = list(rows) + [row]
    lo = least(row[w] for w in web.first[v])

    def hi(j):
        return 0 if j == -1 else greatest(told[j][w] for w in web.second[v])

    if web.marks[v] == 1:
        return least([greatest([plus(x, lo), hi(b - x - 1)]) for x in range(b + 1)])
    return least([hi(b)] + [greatest([plus(x, lo), hi(b - x)]) for x in range(1, b + 2)])


def rounds(web, rows):
    """[124]"""
    found = [tuple(due(told) for told in web.dues)]
    while True:
        row = found[-1]
        after = tuple(least([due(web.dues[v]), price(web, rows, row, len(rows), v)]) for v in range(web.size))
        if after == row:
            return found
        found.append(after)


def table(web, most):
    found = []
    for _ in range(most + 1):
        found.append(rounds(web, found)[-1])
    return tuple(found)


def at_most(one, two):
    """True if one is not greater than two, None being greater than every integer."""
    return two is None or (one is not None and one <= two)
