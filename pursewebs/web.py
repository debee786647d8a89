"""Webs of stands."""

from pursewebs.errors import TooMuch, WrongKind, WrongText, WrongWeb
from pursewebs.reading import check_text, check_text_size
from pursewebs.webparts import check_parts, check_plain, parts_from_text, parts_written
from pursewebs.whole import as_stands


class Web:
    """A web: the steps of both hands, the mark and the due of each stand."""

    def __init__(self, first, second, marks, dues):
        check_parts(first, second, marks, dues)
        size = len(marks)
        self._size = size
        self._first = tuple([as_stands(steps, size) for steps in first])
        self._second = tuple([as_stands(steps, size) for steps in second])
        self._marks = tuple(marks)
        self._dues = tuple([None if due is None else tuple(due) for due in dues])
        self._ends = tuple([stand for stand in range(size) if not first[stand]])
        self._moving = tuple([stand for stand in range(size) if first[stand]])
        self._greatest_due = max([0 if due is None else due[1] for due in dues])
        self._even = self._first == self._second

    @property
    def size(self):
        return self._size

    @property
    def first(self):
        return self._first

    @property
    def second(self):
        return self._second

    @property
    def marks(self):
        return self._marks

    @property
    def dues(self):
        return self._dues

    @property
    def ends(self):
        return self._ends

    @property
    def moving(self):
        return self._moving

    @property
    def greatest_due(self):
        return self._greatest_due

    @property
    def even(self):
        return self._even

    def __eq__(self, other):
        return (isinstance(other, Web) and self._first == other._first and self._second == other._second
                and self._marks == other._marks and self._dues == other._dues)

    def __invert__(self):
        marks = [3 - mark for mark in self._marks]
        return Web(self._second, self._first, marks, self._dues)

    @classmethod
    def from_text(cls, written):
        """The web with that text."""
        check_text(written)
        check_text_size(written)
        first, second, marks, dues = parts_from_text(written)
        try:
            web = cls(first, second, marks, dues)
        except (WrongWeb, TooMuch) as fault:
            raise WrongText("a text is that of no web") from fault
        if parts_written(web.first, web.second, web.marks, web.dues) != written:
            raise WrongText("a text is not written as the text of a web is")
        return web

    @classmethod
    def line(cls, n, mark=1):
        """The stands 0 .. n in a line between two ends, the first of them with the due 0."""
        check_plain(n, mark, 1)
        steps = [[stand - 1, stand + 1] for stand in range(1, n)]
        ways = [[], *steps, []]
        return cls(ways, ways, [mark] * (n + 1), [("chips", 0)] + [None] * n)

    @classmethod
    def ring(cls, n, mark=1):
        """The stands 0 .. n-1, each with the one step to the next one around."""
        check_plain(n, mark, 0)
        ways = [[(stand + 1) % n] for stand in range(n)]
        return cls(ways, ways, [mark] * n, [None] * n)


def check_web(thing):
    """Raise WrongKind if thing is no web."""
    if not isinstance(thing, Web):
        raise WrongKind("a web is asked for")
