"""Shares: fractions in lowest terms."""

from math import gcd

from pursewebs.errors import WrongKind, WrongNumber
from pursewebs.whole import check_whole, is_integer


class Share:
    """The share top / bottom."""

    def __init__(self, top, bottom=1):
        check_whole(top, bottom)
        if bottom == 0:
            raise WrongNumber("the bottom of a share is not 0")
        divisor = gcd(top, bottom) if bottom > 0 else -gcd(top, bottom)
        self._top = top // divisor
        self._bottom = bottom // divisor

    @property
    def top(self):
        return self._top

    @property
    def bottom(self):
        return self._bottom

    def __add__(self, other):
        parts = parts_of(other)
        if parts is None:
            return NotImplemented
        return Share(self._top * parts[1] + parts[0] * self._bottom, self._bottom * parts[1])

    def __radd__(self, other):
        parts = parts_of(other)
        if parts is None:
            return NotImplemented
        return Share(parts[0] * self._bottom + self._top * parts[1], self._bottom * parts[1])

    def __sub__(self, other):
        parts = parts_of(other)
        if parts is None:
            return NotImplemented
        return Share(self._top * parts[1] - parts[0] * self._bottom, self._bottom * parts[1])

    def __rsub__(self, other):
        parts = parts_of(other)
        if parts is None:
            return NotImplemented
        return Share(parts[0] * self._bottom - self._top * parts[1], self._bottom * parts[1])

    def __mul__(self, other):
        parts = parts_of(other)
        if parts is None:
            return NotImplemented
        return Share(self._top * parts[0], self._bottom * parts[1])

    def __rmul__(self, other):
        parts = parts_of(other)
        if parts is None:
            return NotImplemented
        return Share(self._top * parts[0], self._bottom * parts[1])

    def __eq__(self, other):
        return isinstance(other, Share) and self._top == other._top and self._bottom == other._bottom

    def __str__(self):
        return f"{self._top}/{self._bottom}"

    def halved(self):
        """The half of this share."""
        return Share(self._top, self._bottom * 2)

    def compared(self, other):
        """-1, 0 or 1: this share is less than, equal to or greater than other."""
        parts = parts_of(other)
        if parts is None:
            raise WrongKind("a share is compared with a share or an integer")
        here = self._top * parts[1]
        there = parts[0] * self._bottom
        if here == there:
            return 0
        return -1 if here < there else 1


def parts_of(thing):
    """The top and the bottom of a share or an integer, None for anything else."""
    if isinstance(thing, Share):
        return (thing.top, thing.bottom)
    if is_integer(thing):
        return (thing, 1)
    return None
