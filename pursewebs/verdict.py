"""Verdicts: the places at which something breaks its rules."""

from pursewebs.whole import check_least, whole_list


class Verdict:
    """The faults of something that was looked at."""

    def __init__(self, faults):
        numbers = whole_list(faults)
        for number in numbers:
            check_least(number, 0)
        self._faults = tuple(sorted(set(numbers)))

    @property
    def faults(self):
        return self._faults

    def __bool__(self):
        return not self._faults

    def __iter__(self):
        return iter(self._faults)

    def __eq__(self, other):
        return isinstance(other, Verdict) and self._faults == other._faults
