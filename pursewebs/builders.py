"""New webs from plain numbers and from other webs."""

from pursewebs.checks import check_stand
from pursewebs.dues import check_due, check_due_range, check_due_size
from pursewebs.errors import WrongNumber, WrongWeb
from pursewebs.web import Web, check_web
from pursewebs.webparts import check_plain
from pursewebs.whole import as_stands, check_one_or_two, check_whole, whole_list


def chain(u, mark=1):
    """A web in which each of u stands leads back by one stand, or to the end without a due."""
    check_plain(u, mark, 2)
    ways = [[], [], [0, 1]] + [[stand - 1, 1] for stand in range(3, u + 2)]
    return Web(ways, ways, [mark] * (u + 2), [("chips", 0)] + [None] * (u + 1))


def with_marks(web, mark):
    """The same web with this mark at each stand."""
    check_web(web)
    check_whole(mark)
    check_one_or_two(mark)
    return Web(web.first, web.second, [mark] * web.size, web.dues)


def check_due_change(web, stand, due):
    """Raise what is wrong with the arguments of a change of a due."""
    check_web(web)
    check_whole(stand)
    check_due(due)
    check_stand(web, stand)
    check_due_range(due)
    check_due_size(due)


def replaced(parts, place, part):
    """The parts as a list, with another part at this place."""
    return [part if at == place else old for at, old in enumerate(parts)]


def with_due(web, stand, due):
    """The same web with this due at the stand."""
    check_due_change(web, stand, due)
    return Web(web.first, web.second, web.marks, replaced(web.dues, stand, due))


def ended(web, stand, due):
    """The same web with the stand made an end with this due."""
    check_due_change(web, stand, due)
    first = replaced(web.first, stand, ())
    second = replaced(web.second, stand, ())
    return Web(first, second, web.marks, replaced(web.dues, stand, due))


def parts_of_web(web, stands, names):
    """The four lists of these stands of web, each step by the name that names tells for it."""
    first = [[names[step] for step in web.first[stand]] for stand in stands]
    second = [[names[step] for step in web.second[stand]] for stand in stands]
    marks = [web.marks[stand] for stand in stands]
    dues = [web.dues[stand] for stand in stands]
    return (first, second, marks, dues)


def renamed(web, order):
    """The same web with stand v named order[v]."""
    check_web(web)
    names = whole_list(order)
    if sorted(names) != list(range(web.size)):
        raise WrongNumber("each stand is to be named once")
    old = {name: stand for stand, name in enumerate(names)}
    stands = [old[name] for name in range(web.size)]
    first, second, marks, dues = parts_of_web(web, stands, names)
    return Web(first, second, marks, dues)


def cut_down(web, stands):
    """The web of these stands alone, and the set of them."""
    check_web(web)
    kept = as_stands(stands, web.size)
    if not kept:
        raise WrongWeb("a web has at least one stand")
    names = {stand: name for name, stand in enumerate(kept)}
    for stand in kept:
        for step in (*web.first[stand], *web.second[stand]):
            if step not in names:
                raise WrongWeb("a step leads out of the stands that are kept")
    first, second, marks, dues = parts_of_web(web, kept, names)
    return (Web(first, second, marks, dues), kept)
