"""Dues: what the first hand has to reach at a stand."""

from pursewebs.errors import TooMuch, WrongKind, WrongNumber, WrongText
from pursewebs.reading import check_text, whole_from_word
from pursewebs.whole import GREATEST, check_least, check_whole, is_integer


def is_due(due):
    """True if due has the form of a due, whatever its word and its number are."""
    if due is None:
        return True
    if not isinstance(due, (list, tuple)) or len(due) != 2:
        return False
    return isinstance(due[0], str) and is_integer(due[1])


def due_in_range(due):
    """True if the word and the number of due are those of a due."""
    return due is None or (due[0] in ("chips", "less") and due[1] >= 0)


def due_too_great(due):
    """True if the number of due is above its bound."""
    return due is not None and due[1] > GREATEST


def check_due(due):
    """Raise WrongKind if due is of the wrong kind."""
    if not is_due(due):
        raise WrongKind("a due is None or a list of a word and an integer")


def check_due_range(due):
    """Raise WrongNumber if due is out of range."""
    if not due_in_range(due):
        raise WrongNumber("a due has a wrong word or a number below 0")


def check_due_size(due):
    """Raise TooMuch if the number of due is above its bound."""
    if due_too_great(due):
        raise TooMuch("the number of a due is above its bound")


def due_at(due, k):
    """The due number of a right due at a right k."""
    if due is None:
        return k + 1
    if due[0] == "chips":
        return min(due[1], k + 1)
    return max(0, k + 1 - due[1])


def slope_of(due, m):
    """The slope of a right due with a right period m."""
    if due is not None and due[0] == "chips":
        return 0
    return m


def due_number(due, k):
    """The due number at k."""
    check_due(due)
    check_whole(k)
    check_due_range(due)
    check_least(k, 0)
    check_due_size(due)
    return due_at(due, k)


def due_slope(due, m):
    """The slope of the due with the period m."""
    check_due(due)
    check_whole(m)
    check_due_range(due)
    check_least(m, 1)
    check_due_size(due)
    return slope_of(due, m)


def due_word(due):
    """The word of the due."""
    check_due(due)
    check_due_range(due)
    check_due_size(due)
    if due is None:
        return "-"
    return f"c{due[1]}" if due[0] == "chips" else f"l{due[1]}"


def due_from_word(word):
    """The due with that word."""
    check_text(word)
    if word == "-":
        return None
    if word[:1] not in ("c", "l"):
        raise WrongText("a word is that of no due")
    number = whole_from_word(word[1:])
    if number > GREATEST:
        raise WrongText("the number of a due is above its bound")
    return ("chips" if word[0] == "c" else "less", number)
