"""What all texts that are read have in common."""

from pursewebs.errors import TooMuch, WrongKind, WrongText

LONGEST_TEXT = 40000


def check_text(text):
    """Raise WrongKind if text is no string."""
    if not isinstance(text, str):
        raise WrongKind("a text is a string")


def check_text_size(text):
    """Raise TooMuch if text is too long to be read."""
    if len(text) > LONGEST_TEXT:
        raise TooMuch("a text has too many signs")


def whole_from_word(word):
    """The number that is written as word, in digits without leading zeros."""
    try:
        number = int(word)
    except ValueError as refusal:
        raise WrongText("a word is no number") from refusal
    # int takes signs, blanks, leading zeros and other digits, too.
    if number < 0 or str(number) != word:
        raise WrongText("a number is not written in plain digits")
    return number


def numbers_from_line(line, name):
    """The numbers behind the name in a line of a text."""
    words = line.split(" ")
    if words[0] != name:
        raise WrongText("a line does not begin with its name")
    return tuple([whole_from_word(word) for word in words[1:]])
