"""Plain readings of [166], [167] and [170]: rules, their numbers, advice, and the texts of desks."""

from tests import plain, plain_bank, plain_joins, plain_tables, plain_token

WORDS = ("hand", "turns", "token", "bank")


def lamp_web(web):
    """[107]: the pairs of a stand and what the lamp shows."""
    names = [(v, lamp) for v in range(web.size) for lamp in (1, 2)]
    steps = {(v, lamp): [(w, 3 - lamp) for w in web.first[v]] for v, lamp in names}
    return plain_joins.named_web(names, steps, steps, {name: name[1] for name in names},
                                 {name: web.dues[name[0]] for name in names})


def greatest_purse(word, k):
    return 2 * k + 1 if word == "token" else k


def numbers(word, web, k):
    if word == "hand":
        return plain_tables.number_row(web, k)
    if word == "turns":
        return plain_tables.number_row(lamp_web(web), k)[::2]
    if word == "token":
        return plain_token.token_row(web, k)
    table = plain_bank.table(web, k)
    return tuple(min([a for a in range(k + 1) if plain_bank.reaches(table, v, a, k - a)], default=k + 1)
                 for v in range(web.size))


def due(word, web, k, v):
    if word == "token":
        return plain_token.token_due(web.dues[v], k)
    if word == "bank":
        return plain_bank.due(web.dues[v])
    return plain.due_number(web.dues[v], k)


def first_plan(web, k, row, v, a):
    """[51] with the ranks of falling out, at a stand that the plan does not claim at."""
    ranks = plain.falling(web, k, row)[0]
    e, i = a - row[v], ranks[v]
    h = [row[w] + e + (1 if ranks[w] >= i else 0) for w in range(web.size)]
    told = max(0, plain.high(web, h, v) - a - (1 if web.marks[v] == 1 else 0))
    best = [w for w in web.first[v] if row[w] == plain.low(web, row, v)]
    return min(told, a), min([w for w in best if ranks[w] < i] or best)


def second_plan(web, k, row, v, a):
    """[52]"""
    told = max(0, a - plain.low(web, row, v) + (1 if web.marks[v] == 1 else 0))
    return min(told, k - a), min(w for w in web.second[v] if row[w] == plain.high(web, row, v))


def by_hands(web, k, v, a):
    row = plain_tables.number_row(web, k)
    hand = 1 if a >= row[v] else 2
    return (hand, *(first_plan if hand == 1 else second_plan)(web, k, row, v, a))


def by_token(web, k, v, h):
    row = plain_token.token_row(web, k)
    if h >= row[v]:
        return (1, *plain_token.plan(web, k, row, plain_token.falling(web, k, row)[0], v, h))
    told = plain_token.second_size(web, row, v, h)
    return (2, min(told // 2, k - h // 2), told % 2 == 1, plain_token.second_step(web, row, v))


def by_bank(web, k, v, a):
    table = plain_bank.table(web, k - a)
    if plain_bank.reaches(table, v, a, k - a):
        return (1, *plain_bank.plan(web, table, plain_bank.falling(web, table)[0], v, a, k - a))
    return (2, *plain_bank.second_told(web, table, v, a, k - a))


def advice(word, web, k, v, purse):
    """[167]"""
    need = due(word, web, k, v)
    if need is not None and purse >= need:
        return (1, "claim")
    if not web.first[v]:
        return (2, "over")
    if word == "hand":
        return by_hands(web, k, v, purse)
    if word == "turns":
        hand, bid, step = by_hands(lamp_web(web), k, 2 * v, purse)
        return (hand, bid, step // 2)
    return by_token(web, k, v, purse) if word == "token" else by_bank(web, k, v, purse)


def desk_text(desk):
    """[170]"""
    from pursewebs.playtext import play_written
    from pursewebs.webtext import written
    state = play_written(desk.played()) if desk.rule.word == "hand" else f"play {desk.chips} {desk.stand} {desk.purse}\n"
    return "desk " + desk.rule.word + "\n" + written(desk.web) + state
