"""The errors of the package."""


class PurseError(Exception):
    """What every error of the package is."""


class WrongKind(PurseError):
    """An argument is of another kind than the call takes."""


class WrongNumber(PurseError):
    """An integer is out of its range, or a list has a wrong length."""


class WrongWeb(PurseError):
    """Something is no web, or the web does not fit what is asked."""


class WrongText(PurseError):
    """A text is not one that this package writes."""


class WrongDeed(PurseError):
    """A deed is not allowed now."""


class TooMuch(PurseError):
    """A size is above its bound."""
