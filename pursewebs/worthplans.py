"""Plans for worths, duels of them, and values by tables."""

from pursewebs.checks import MOST_SMALL_MOVING, MOST_SMALL_STANDS, check_list, check_stand, check_state
from pursewebs.errors import WrongKind
from pursewebs.falling import fallen_out
from pursewebs.plans import FirstPlan, SecondPlan
from pursewebs.rises import MOST_CHIPS, numbers_at
from pursewebs.serving import bought
from pursewebs.table import Table, check_far, check_is_table, number_told
from pursewebs.whole import check_least, check_most, check_range, check_whole, whole_list
from pursewebs.worths import (check_worth_chips, check_worth_kinds, check_worths, found_value, levels_of,
                              web_of_level)

MOST_DUEL_CHIPS = 400


def checked_level_web(web, k, worths, level):
    """The web of the worth level, after a look at the arguments of a plan for it."""
    check_whole(level)
    check_worth_kinds(web, worths)
    check_whole(k)
    check_least(level, 1)
    check_worth_chips(web, k, worths, MOST_CHIPS)
    return web_of_level(web, worths, level)


class WorthPlan(FirstPlan):
    """The first hand's plan for a worth level."""

    def __init__(self, web, k, worths, level):
        leveled = checked_level_web(web, k, worths, level)
        row = numbers_at(leveled, k)
        ranks, _ = fallen_out(leveled, k, row)
        FirstPlan.__init__(self, leveled, k, row, ranks)


class HoldPlan(SecondPlan):
    """The second hand's plan against a worth level."""

    def __init__(self, web, k, worths, level):
        leveled = checked_level_web(web, k, worths, level)
        SecondPlan.__init__(self, leveled, k, numbers_at(leveled, k))


def deed_of(plan, steps, stand, purse):
    """The bid and the step of the plan; without a plan the bid 0 and the least of the steps."""
    if plan is None:
        return (0, steps[0])
    return plan(stand, purse)


def worth_duel(web, k, worths, stand, purse):
    """The worth of the end that the duel comes to, 0 if a state comes a second time."""
    whole_list(worths)
    check_state(web, k, stand, purse)
    check_worth_chips(web, k, worths, MOST_DUEL_CHIPS)
    sure = found_value(web, k, worths, stand, purse)
    above = [level for level in levels_of(worths) if level > sure]
    first = WorthPlan(web, k, worths, sure) if sure > 0 else None
    second = HoldPlan(web, k, worths, above[0]) if above else None
    seen = {}
    while web.first[stand] and (stand, purse) not in seen:
        seen[(stand, purse)] = True
        p, first_step = deed_of(first, web.first[stand], stand, purse)
        q, second_step = deed_of(second, web.second[stand], stand, purse)
        hand, purse = bought(web.marks[stand], purse, p, q)
        stand = first_step if hand == 1 else second_step
    return 0 if web.first[stand] else worths[stand]


def level_tables(web, worths):
    """Each different worth from 1 on with the least table of the web of its worth level."""
    check_worth_kinds(web, worths)
    check_worths(web, worths)
    check_most(web.size, MOST_SMALL_STANDS)
    check_most(len(web.moving), MOST_SMALL_MOVING)
    return tuple([(level, Table.least(web_of_level(web, worths, level))) for level in levels_of(worths)])


def check_level_tables(tables):
    """Raise WrongKind if tables is no list of lists of a level and a table."""
    check_list(tables)
    for told in tables:
        check_list(told)
        if len(told) != 2:
            raise WrongKind("a level and a table are asked for")
        check_whole(told[0])
        check_is_table(told[1])


def far_value(tables, k, stand, purse):
    """The greatest level whose table tells a number of the stand that the purse reaches, 0 if there is none."""
    check_level_tables(tables)
    check_whole(k, stand, purse)
    check_least(stand, 0)
    check_range(purse, 0, k)
    for level, table in tables:
        check_least(level, 1)
        check_stand(table.web, stand)
    check_far(k)
    return max([level for level, table in tables if number_told(table, stand, k) <= purse], default=0)
