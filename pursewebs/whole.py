"""Whole numbers and lists of them."""

from pursewebs.errors import TooMuch, WrongKind, WrongNumber

GREATEST = 10 ** 40


def is_integer(thing):
    """True if thing is an integer, which True and False are not."""
    return isinstance(thing, int) and not isinstance(thing, bool)


def check_whole(*things):
    """Raise WrongKind if one of the things is no integer."""
    for thing in things:
        if not is_integer(thing):
            raise WrongKind("an integer is asked for")


def whole_list(thing):
    """The list of integers thing as a tuple."""
    if not isinstance(thing, (list, tuple)):
        raise WrongKind("a list is asked for")
    check_whole(*thing)
    return tuple(thing)


def check_size(row, size):
    """Raise WrongNumber if row does not have size parts."""
    if len(row) != size:
        raise WrongNumber("a list has a wrong length")


def check_range(number, least, most):
    """Raise WrongNumber if number is not in least .. most."""
    if number < least or number > most:
        raise WrongNumber("an integer is out of its range")


def check_least(number, least):
    """Raise WrongNumber if number is below least."""
    if number < least:
        raise WrongNumber("an integer is below its range")


def check_one_or_two(number):
    """Raise WrongNumber if number is neither 1 nor 2."""
    if number not in (1, 2):
        raise WrongNumber("1 or 2 is asked for")


def check_most(number, most):
    """Raise TooMuch if number is above most."""
    if number > most:
        raise TooMuch("a size is above its bound")


def as_row(thing, size):
    """The list of size integers thing as a tuple."""
    row = whole_list(thing)
    check_size(row, size)
    return row


def as_stands(thing, size):
    """The list of stands thing as a set of stands."""
    stands = whole_list(thing)
    for stand in stands:
        check_range(stand, 0, size - 1)
    return tuple(sorted(set(stands)))
