"""The texts of desks."""

from pursewebs.desk import Desk, check_desk, desk_of_play
from pursewebs.errors import TooMuch, WrongNumber, WrongText, WrongWeb
from pursewebs.playtext import play_from_text, play_written, three_from_line
from pursewebs.reading import check_text, check_text_size, whole_from_word
from pursewebs.rules import HandRule, rule_named
from pursewebs.web import Web
from pursewebs.webparts import parts_written


def desk_written(desk):
    """The text of the desk."""
    check_desk(desk)
    web = desk.web
    if desk.rule == HandRule():
        state = play_written(desk.played())
    else:
        state = f"play {desk.chips} {desk.stand} {desk.purse}\n"
    return f"desk {desk.rule.word}\n{parts_written(web.first, web.second, web.marks, web.dues)}{state}"


def desk_from_text(written):
    """The desk with that text."""
    check_text(written)
    check_text_size(written)
    lines = written.split("\n")
    if len(lines) < 2:
        raise WrongText("the text of a desk has more lines")
    # The lines of the web are its head, which tells how many stands it has, and one for each stand.
    behind = whole_from_word(word_behind(lines[1], "web")) + 2
    try:
        rule = rule_named(word_behind(lines[0], "desk"))
        web = Web.from_text("\n".join([*lines[1:behind], ""]))
        if rule == HandRule():
            return desk_of_play(play_from_text(web, "\n".join(lines[behind:])))
        k, stand, purse = state_from_lines(lines[behind:])
        return Desk(web, k, stand, purse, rule=rule)
    except (WrongNumber, WrongWeb, TooMuch) as fault:
        raise WrongText("a text is that of no desk") from fault


def word_behind(line, name):
    """The word behind the name in a line of two words."""
    words = line.split(" ")
    if len(words) != 2 or words[0] != name:
        raise WrongText("a line does not have its name and one word")
    return words[1]


def state_from_lines(lines):
    """The k, the stand and the purse that the last lines of the text of a desk tell."""
    if len(lines) != 2 or lines[1] != "":
        raise WrongText("a desk without a play has one line for its state")
    return three_from_line(lines[0], "play")
