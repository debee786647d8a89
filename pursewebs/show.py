"""Tables of numbers, shares and plays as texts."""

from pursewebs.dues import due_word
from pursewebs.falling import fallen_out
from pursewebs.play import check_play
from pursewebs.rises import MOST_CHIPS, numbers_at
from pursewebs.rounds import check_chips
from pursewebs.serving import bought
from pursewebs.sharerows import share_row


def columned(rows):
    """The text of a table with these rows of words: its columns are right aligned."""
    widths = [max([len(word) for word in column]) for column in zip(*rows)]
    lines = []
    for row in rows:
        lines.append(" ".join([word.rjust(widths[place]) for place, word in enumerate(row)]))
    return "\n".join([*lines, ""])


def words_of(*things):
    """The words of numbers and words."""
    return [str(thing) for thing in things]


def number_table(web, k):
    """A table of the due, the mark, the number and the rank of each stand."""
    check_chips(web, k, MOST_CHIPS)
    row = numbers_at(web, k)
    ranks, _ = fallen_out(web, k, row)
    rows = [["stand", "due", "mark", "number", "rank"]]
    for stand, number in enumerate(row):
        rows.append(words_of(stand, due_word(web.dues[stand]), web.marks[stand], number, ranks[stand]))
    return columned(rows)


def share_table(web):
    """A table of the share of each stand."""
    rows = [["stand", "share"]]
    for stand, share in enumerate(share_row(web)):
        rows.append(words_of(stand, share))
    return columned(rows)


def play_table(play):
    """A table of the moves of a play."""
    check_play(play)
    states = list(play)
    rows = [["move", "p", "q", "hand", "step", "stand", "purse"]]
    for place, (p, q, step) in enumerate(play.moves):
        stand, purse = states[place]
        hand, _ = bought(play.web.marks[stand], purse, p, q)
        rows.append(words_of(place + 1, p, q, hand, step, states[place + 1][0], states[place + 1][1]))
    return columned(rows)
