"""Stands that are made ends with their numbers as dues."""

from pursewebs.builders import ended
from pursewebs.checks import check_moving, check_stand
from pursewebs.rises import MOST_CHIPS, numbers_at
from pursewebs.web import check_web
from pursewebs.whole import as_stands, check_least, check_most, check_whole, whole_list


def check_cut(web, k, stand):
    """Raise what is wrong with a web, a k and a stand."""
    check_web(web)
    check_whole(k, stand)
    check_least(k, 0)
    check_stand(web, stand)
    check_most(k, MOST_CHIPS)


def cut_at(web, k, stand):
    """The web in which the stand is an end with its number at k as due."""
    check_cut(web, k, stand)
    return ended(web, stand, ("chips", numbers_at(web, k)[stand]))


def cut_change(web, k, stand, change):
    """How much each number at k changes if the stand is made an end with its number and the change as due."""
    check_whole(change)
    check_cut(web, k, stand)
    row = numbers_at(web, k)
    after = numbers_at(ended(web, stand, ("chips", max(0, row[stand] + change))), k)
    return tuple([number - row[place] for place, number in enumerate(after)])


def parts(web, k, cut):
    """The number row at k, found in the web in which the stands of cut are ends with their numbers as dues."""
    check_web(web)
    check_whole(k)
    whole_list(cut)
    check_least(k, 0)
    stands = as_stands(cut, web.size)
    for stand in stands:
        check_moving(web, stand)
    check_most(k, MOST_CHIPS)
    row = numbers_at(web, k)
    for stand in stands:
        web = ended(web, stand, ("chips", row[stand]))
    return numbers_at(web, k)
