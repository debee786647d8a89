"""The texts of plays."""

from pursewebs.errors import TooMuch, WrongDeed, WrongNumber, WrongText
from pursewebs.play import Play, check_play
from pursewebs.reading import check_text, check_text_size, numbers_from_line
from pursewebs.web import check_web
from pursewebs.webparts import spaced


def play_written(play):
    """The text of the play."""
    check_play(play)
    stand, purse = list(play)[0]
    lines = [f"play {play.chips} {stand} {purse}\n"]
    for move in play.moves:
        lines.append(f"move {spaced(move)}\n")
    if play.claimed:
        lines.append("claim\n")
    return "".join(lines)


def play_from_text(web, written):
    """The play of the web with that text."""
    check_web(web)
    check_text(written)
    check_text_size(written)
    begin, moves, claimed = deeds_from_text(written)
    try:
        return played(web, begin, moves, claimed)
    except (WrongNumber, WrongDeed, TooMuch) as fault:
        raise WrongText("a text is that of no play of the web") from fault


def played(web, begin, moves, claimed):
    """The play that begins with these numbers and has these deeds."""
    k, stand, purse = begin
    play = Play(web, k, stand, purse)
    for p, q, step in moves:
        play.move(p, q, step)
    if claimed:
        play.claim()
    return play


def deeds_from_text(text):
    """The first numbers of the text of a play, its moves, and whether it ends in a claim."""
    lines = text.split("\n")
    if lines.pop() != "" or not lines:
        raise WrongText("the text of a play has one line or more, each with its end")
    claimed = lines[-1] == "claim"
    if claimed:
        lines.pop()
    if not lines:
        raise WrongText("the text of a play begins with its first state")
    begin = three_from_line(lines[0], "play")
    return (begin, [three_from_line(line, "move") for line in lines[1:]], claimed)


def three_from_line(line, name):
    """The three numbers behind the name in a line of a text."""
    found = numbers_from_line(line, name)
    if len(found) != 3:
        raise WrongText("a line of a play has three numbers")
    return found
