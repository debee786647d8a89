"""Duels: plays in which both hands, or one of them, follow the plans of the number row."""

from pursewebs.checks import check_state
from pursewebs.falling import fallen_out
from pursewebs.plans import FirstPlan, SecondPlan
from pursewebs.play import Play, claim_by_plan, move_by_deeds
from pursewebs.rises import numbers_at
from pursewebs.whole import check_least, check_most, check_one_or_two, check_whole, whole_list

MOST_CHIPS = 80


def exact_plans(web, k):
    """The plans of both hands of the number row at k."""
    row = numbers_at(web, k)
    ranks, _ = fallen_out(web, k, row)
    return (FirstPlan(web, k, row, ranks), SecondPlan(web, k, row))


def duel(web, k, stand, purse):
    """The play of both plans, until it is over or a state comes a second time."""
    check_state(web, k, stand, purse)
    check_most(k, MOST_CHIPS)
    first, second = exact_plans(web, k)
    play = Play(web, k, stand, purse)
    claim_by_plan(play, first)
    seen = {}
    while not play.over and (play.stand, play.purse) not in seen:
        seen[(play.stand, play.purse)] = True
        move_by_deeds(play, first(play.stand, play.purse), second(play.stand, play.purse))
        claim_by_plan(play, first)
    return play


def foreign(web, k, stand, purse, side, bids, picks):
    """The play in which the hand side follows its plan and the other hand two lists."""
    check_foreign(web, k, stand, purse, side, bids, picks)
    first, second = exact_plans(web, k)
    play = Play(web, k, stand, purse)
    claim_in_foreign(play, first, side)
    for bid, pick in zip(bids, picks):
        if play.over:
            break
        deed = listed_deed(play, 3 - side, bid, pick)
        if side == 1:
            move_by_deeds(play, first(play.stand, play.purse), deed)
        else:
            move_by_deeds(play, deed, second(play.stand, play.purse))
        claim_in_foreign(play, first, side)
    return play


def check_foreign(web, k, stand, purse, side, bids, picks):
    """Raise what is wrong with the arguments of foreign."""
    check_whole(side)
    numbers = whole_list(bids) + whole_list(picks)
    check_state(web, k, stand, purse)
    check_one_or_two(side)
    for number in numbers:
        check_least(number, 0)
    check_most(k, MOST_CHIPS)


def claim_in_foreign(play, first, side):
    """Claim as the first hand's plan does, or at ends alone if that hand follows the lists."""
    if side == 1:
        claim_by_plan(play, first)
    elif not play.over and not play.web.first[play.stand]:
        play.claim()


def listed_deed(play, hand, bid, pick):
    """The bid, at most the chips of the hand, and the step that the lists tell."""
    chips = play.purse if hand == 1 else play.chips - play.purse
    steps = play.web.first[play.stand] if hand == 1 else play.web.second[play.stand]
    return (min(bid, chips), steps[pick % len(steps)])
