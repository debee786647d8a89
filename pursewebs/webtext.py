"""The text of a web."""

from pursewebs.web import check_web
from pursewebs.webparts import parts_written


def written(web):
    """The text of the web."""
    check_web(web)
    return parts_written(web.first, web.second, web.marks, web.dues)
