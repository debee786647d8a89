"""The levels of all states with the bank, listed by their plain meaning."""

from pursewebs.bankrows import bank_due_of
from pursewebs.serving import bought
from pursewebs.web import check_web
from pursewebs.whole import check_least, check_most, check_whole

MOST_STANDS = 6
MOST_PURSE = 9


def bank_claimable(web, most_a, most_b):
    """Level 0: for each stand and both purses whether the first hand can claim."""
    found = []
    for told in web.dues:
        due = bank_due_of(told)
        claims = [due is not None and a >= due for a in range(most_a + 1)]
        found.append(tuple([(claim,) * (most_b + 1) for claim in claims]))
    return tuple(found)


def bank_level_behind(web, level):
    """The level behind this one. A level holds the one before it, so its states stay."""
    return tuple([stand_behind(web, level, stand) for stand in range(web.size)])


def stand_behind(web, level, stand):
    """What the level behind this one holds of a stand."""
    if not web.first[stand]:
        return level[stand]
    gained = joined_states([level[step] for step in web.first[stand]], True)
    kept = joined_states([level[step] for step in web.second[stand]], False)
    mark = web.marks[stand]
    return tuple([tuple([held or bank_forced(mark, a, b, gained, kept) for b, held in enumerate(row)])
                  for a, row in enumerate(level[stand])])


def joined_states(listed, some):
    """For both purses whether the states listed for some stands are True, at some stand or at all of them."""
    found = []
    for rows in zip(*listed):
        parts = [list(told) for told in zip(*rows)]
        found.append([any(told) if some else all(told) for told in parts])
    return found


def bank_forced(mark, a, b, gained, kept):
    """True if some bid of the first hand leads well, whatever the second hand bids.

    gained and kept tell for both purses whether it is well behind a move of the first and of the second hand.
    """
    for p in range(a + 1):
        if all([leads_well(mark, a, b, (p, q), gained, kept) for q in range(b + 1)]):
            return True
    return False


def leads_well(mark, a, b, bids, gained, kept):
    """True if these bids lead to where it is well for the first hand."""
    p, q = bids
    hand, _ = bought(mark, a, p, q)
    return gained[a - p][b] if hand == 1 else kept[a][b - q]


def check_bank_listing(web, most_a, most_b, steps):
    """Raise what is wrong with the arguments of bank_won."""
    check_web(web)
    check_whole(most_a, most_b)
    if steps is not None:
        check_whole(steps)
    check_least(most_a, 0)
    check_least(most_b, 0)
    if steps is not None:
        check_least(steps, 0)
    check_most(web.size, MOST_STANDS)
    check_most(most_a, MOST_PURSE)
    check_most(most_b, MOST_PURSE)


def bank_won(web, most_a, most_b, steps=None):
    """For each stand and both purses whether the state is of the level steps, or of some level."""
    check_bank_listing(web, most_a, most_b, steps)
    level = bank_claimable(web, most_a, most_b)
    after = bank_level_behind(web, level)
    done = 0
    while after != level and (steps is None or done < steps):
        level = after
        after = bank_level_behind(web, level)
        done += 1
    return level
