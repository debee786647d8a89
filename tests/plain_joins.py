"""Plain readings of [151] to [164]: joined webs, boards and worths."""

from pursewebs.web import Web
from tests import plain


def named_web(names, first, second, marks, dues):
    """The web of the stands with these names, whose parts are told by name."""
    places = {name: place for place, name in enumerate(names)}
    ways = [[[places[step] for step in told[name]] for name in names] for told in (first, second)]
    return Web(ways[0], ways[1], [marks[name] for name in names], [dues[name] for name in names])


def pieces(webs, entries):
    """The webs one after the other; entries tells (piece, end) -> (piece, entry) for each end that is led on."""
    names = [(piece, v) for piece, web in enumerate(webs) for v in range(web.size)]
    first, second, marks, dues = {}, {}, {}, {}
    for piece, v in names:
        web = webs[piece]
        name = (piece, v)
        if name in entries:
            first[name] = second[name] = [entries[name]]
            marks[name], dues[name] = 1, None
        else:
            first[name] = [(piece, w) for w in web.first[v]]
            second[name] = [(piece, w) for w in web.second[v]]
            marks[name], dues[name] = web.marks[v], web.dues[v]
    return named_web(names, first, second, marks, dues)


def joined(web, links):
    """[151]"""
    entries = {(0, end): (place + 1, entry) for place, (end, _, entry) in enumerate(links)}
    return pieces([web] + [other for _, other, _ in links], entries)


def copies(web, end, entry, times):
    """[154]"""
    return pieces([web] * times, {(j, end): (j + 1, entry) for j in range(times - 1)})


def layers(web, calls, times):
    """[155]"""
    names = [(j, v) for j in range(times + 1) for v in range(web.size)]
    first, second, marks, dues = {}, {}, {}, {}
    for j, v in names:
        to = j - 1 if v in calls else j
        first[j, v] = [(to, w) for w in web.first[v]] if j else []
        second[j, v] = [(to, w) for w in web.second[v]] if j else []
        marks[j, v] = web.marks[v]
        dues[j, v] = ("chips", 0) if j == 0 else None if web.first[v] else web.dues[v]
    return named_web(names, first, second, marks, dues)


def boards(web, other, mark, goal):
    """[157]"""
    names = [(v, w) for v in range(web.size) for w in range(other.size)]
    first, second, dues = {}, {}, {}
    for v, w in names:
        ends = [not board.first[x] for board, x in ((web, v), (other, w))]
        won = [board.dues[x] is not None for board, x in ((web, v), (other, w))]
        lost = [end and not win for end, win in zip(ends, won)]
        over = all(ends) or any(lost if goal == "all" else won)
        wins = over and (all(won) if goal == "all" else any(won))
        for told, kind in ((first, "first"), (second, "second")):
            steps = [(x, w) for x in getattr(web, kind)[v]] + [(v, y) for y in getattr(other, kind)[w]]
            told[v, w] = [] if over else steps
        dues[v, w] = ("chips", 0) if wins else None
    return named_web(names, first, second, {name: mark for name in names}, dues)


def values(web, k, worths):
    """[160]: the last V_j, bid by bid."""
    told = {(v, a): worths[v] for v, a in plain.states(web, k)}
    while True:
        after = {(v, a): worths[v] if not web.first[v] else sure(web, k, told, v, a) for v, a in plain.states(web, k)}
        assert all(after[state] >= told[state] for state in told)
        if after == told:
            return told
        told = after


def sure(web, k, told, v, a):
    def brought(p, q):
        if plain.first_gets(web, v, p, q):
            return max(told[w, a - p] for w in web.first[v])
        return min(told[w, a + q] for w in web.second[v])
    return max(min(brought(p, q) for q in range(k - a + 1)) for p in range(a + 1))


def level_web(web, worths, level):
    """[161]"""
    dues = [("chips", 0) if not web.first[v] and worths[v] >= level else None for v in range(web.size)]
    return Web(web.first, web.second, web.marks, dues)
