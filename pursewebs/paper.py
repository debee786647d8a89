"""Papers: a row with ranks at one k."""

from pursewebs.checks import check_stand
from pursewebs.errors import TooMuch, WrongKind, WrongNumber, WrongText
from pursewebs.falling import fallen_out
from pursewebs.lower import lower_breaks
from pursewebs.reading import check_text, check_text_size, numbers_from_line
from pursewebs.rises import MOST_CHIPS, numbers_at
from pursewebs.rounds import check_chips
from pursewebs.upper import check_ranked, upper_breaks
from pursewebs.verdict import Verdict
from pursewebs.web import check_web
from pursewebs.webparts import spaced
from pursewebs.whole import check_whole


class Paper:
    """A row with ranks, which need not show anything."""

    def __init__(self, web, k, row, ranks):
        check_ranked(web, k, row, ranks)
        self._web = web
        self._chips = k
        self._row = tuple(row)
        self._ranks = tuple(ranks)

    @property
    def web(self):
        return self._web

    @property
    def chips(self):
        return self._chips

    @property
    def row(self):
        return self._row

    @property
    def ranks(self):
        return self._ranks

    def __eq__(self, other):
        return (isinstance(other, Paper) and self._web == other._web and self._chips == other._chips
                and self._row == other._row and self._ranks == other._ranks)

    @classmethod
    def exact(cls, web, k):
        """The paper of the number row with the ranks of falling out."""
        check_chips(web, k, MOST_CHIPS)
        row = numbers_at(web, k)
        ranks, _ = fallen_out(web, k, row)
        return cls(web, k, row, ranks)

    @classmethod
    def from_text(cls, web, written):
        """The paper of the web with that text."""
        check_web(web)
        check_text(written)
        check_text_size(written)
        k, row, ranks = numbers_from_text(written)
        try:
            paper = cls(web, k, row, ranks)
        except (WrongNumber, TooMuch) as fault:
            raise WrongText("a text is that of no paper of the web") from fault
        return paper

    def below(self):
        """The Verdict on the row as a lower row."""
        return Verdict(lower_breaks(self._web, self._chips, self._row))

    def above(self):
        """The Verdict on the row and its ranks as an upper row."""
        return Verdict(upper_breaks(self._web, self._chips, self._row, self._ranks))

    def judged(self):
        """The Verdict of the faults of either kind."""
        return Verdict(self.below().faults + self.above().faults)

    def number(self, stand):
        """The part of the row at the stand."""
        check_whole(stand)
        check_stand(self._web, stand)
        return self._row[stand]


def paper_written(paper):
    """The text of the paper."""
    if not isinstance(paper, Paper):
        raise WrongKind("a paper is asked for")
    return f"paper {paper.chips}\nrow {spaced(paper.row)}\nranks {spaced(paper.ranks)}\n"


def numbers_from_text(text):
    """The k, the row and the ranks that the text of a paper tells."""
    lines = text.split("\n")
    if len(lines) != 4 or lines[3] != "":
        raise WrongText("the text of a paper has three lines")
    head = numbers_from_line(lines[0], "paper")
    if len(head) != 1:
        raise WrongText("the first line of a paper has one number")
    return (head[0], numbers_from_line(lines[1], "row"), numbers_from_line(lines[2], "ranks"))
