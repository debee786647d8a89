"""Webs made of several webs: ends that lead on into other webs, copies in a row, and layers."""

from pursewebs.callchecks import called_stands, check_calls_move
from pursewebs.checks import check_list, check_stand
from pursewebs.errors import WrongKind, WrongWeb
from pursewebs.web import Web, check_web
from pursewebs.webparts import MOST_STANDS
from pursewebs.whole import check_least, check_most, check_whole


def check_link(link):
    """Raise WrongKind if link is no list of an end, a web and an entry."""
    check_list(link)
    if len(link) != 3:
        raise WrongKind("a link has three parts")
    check_whole(link[0], link[2])
    check_web(link[1])


def check_end(web, end):
    """Raise WrongWeb if the stand has steps."""
    if web.first[end]:
        raise WrongWeb("a stand that is led on has steps")


def checked_offsets(web, links):
    """The offsets of the other webs, after a look at the web and all links."""
    check_web(web)
    for link in links:
        check_link(link)
    for end, other, entry in links:
        check_stand(web, end)
        check_stand(other, entry)
    ends = [link[0] for link in links]
    for end in ends:
        check_end(web, end)
        if ends.count(end) > 1:
            raise WrongWeb("an end is led on twice")
    found = []
    size = web.size
    for link in links:
        found.append(size)
        size = size + link[1].size
    check_most(size, MOST_STANDS)
    return tuple(found)


def moved(ways, offset):
    """The steps of each stand, each greater by offset."""
    return [[step + offset for step in steps] for steps in ways]


def led_on(webs, entries):
    """The web of these webs one after the other; entries tells for each end that is led on where it leads to."""
    first = []
    second = []
    marks = []
    dues = []
    for web in webs:
        offset = len(marks)
        first.extend(moved(web.first, offset))
        second.extend(moved(web.second, offset))
        marks.extend(web.marks)
        dues.extend(web.dues)
    for end in entries:
        first[end] = [entries[end]]
        second[end] = [entries[end]]
        marks[end] = 1
        dues[end] = None
    return Web(first, second, marks, dues)


def joined(web, *links):
    """The joined web."""
    places = checked_offsets(web, links)
    entries = {}
    for at, link in enumerate(links):
        entries[link[0]] = places[at] + link[2]
    return led_on([web] + [link[1] for link in links], entries)


def offsets(web, *links):
    """The offset of the other web of each link."""
    return checked_offsets(web, links)


def copies(web, end, entry, times):
    """Copies of the web in a row, of which each but the last one leads from its end on to the entry of the next."""
    check_web(web)
    check_whole(end, entry, times)
    check_stand(web, end)
    check_stand(web, entry)
    check_least(times, 1)
    check_end(web, end)
    check_most(times * web.size, MOST_STANDS)
    entries = {at * web.size + end: (at + 1) * web.size + entry for at in range(times - 1)}
    return led_on([web] * times, entries)


def layer_ways(ways, size, layer, calls):
    """The steps of each stand in a layer from 1 on: those of calls lead to the layer before."""
    found = []
    for stand, steps in enumerate(ways):
        offset = (layer - 1 if stand in calls else layer) * size
        found.append([step + offset for step in steps])
    return found


def layers(web, calls, times):
    """The layers 0 .. times of the web, a layer for each number of visits that are still wanted."""
    check_web(web)
    check_whole(times)
    stands = called_stands(web, calls)
    check_least(times, 0)
    check_calls_move(web, stands)
    check_most((times + 1) * web.size, MOST_STANDS)
    first = [[] for _ in range(web.size)]
    second = [[] for _ in range(web.size)]
    dues = [("chips", 0)] * web.size
    for layer in range(1, times + 1):
        first = first + layer_ways(web.first, web.size, layer, stands)
        second = second + layer_ways(web.second, web.size, layer, stands)
        dues = dues + [None if web.first[stand] else due for stand, due in enumerate(web.dues)]
    return Web(first, second, web.marks * (times + 1), dues)
