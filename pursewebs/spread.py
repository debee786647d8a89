"""Which stands a stand leads to, and where the second hand keeps the first one off."""

from pursewebs.checks import check_stand
from pursewebs.web import check_web
from pursewebs.whole import check_whole


def reached(stand, ways):
    """The set of the stands that the ways lead to from stand, stand itself too."""
    found = {stand: True}
    waiting = [stand]
    while waiting:
        place = waiting.pop()
        for step in ways[place]:
            if step not in found:
                found[step] = True
                waiting.append(step)
    return tuple(sorted(found))


def first_reach(web, stand):
    """The stands that first steps alone lead to from stand."""
    check_web(web)
    check_whole(stand)
    check_stand(web, stand)
    return reached(stand, web.first)


def spread(web, stand):
    """The stands that the steps of both hands lead to from stand."""
    check_web(web)
    check_whole(stand)
    check_stand(web, stand)
    ways = [steps + web.second[place] for place, steps in enumerate(web.first)]
    return reached(stand, ways)


def stays_off(web, stand, kept):
    """True if a stand of the dict kept may stay in the kept-off set."""
    for step in web.first[stand]:
        if step not in kept:
            return False
    if not web.first[stand] or web.marks[stand] == 1:
        return True
    for step in web.second[stand]:
        if step in kept:
            return True
    return False


def kept_off(web):
    """The kept-off set."""
    check_web(web)
    kept = {stand: True for stand in range(web.size) if web.dues[stand] is None}
    size = -1
    while size != len(kept):
        size = len(kept)
        kept = {stand: True for stand in kept if stays_off(web, stand, kept)}
    return tuple(sorted(kept))
