"""Wrong arguments one by one and two side by side: which error each call raises."""

import copy
import unittest

from pursewebs.errors import PurseError, TooMuch, WrongDeed, WrongKind, WrongNumber, WrongText, WrongWeb
from pursewebs.web import Web

# The letters a to f are those of [3]; the least one of two decides. Some calls look at g and h last.
ERRORS = {"a": WrongKind, "b": WrongWeb, "c": WrongNumber, "d": WrongWeb, "e": WrongDeed, "f": TooMuch, "g": WrongDeed,
          "h": WrongText}

NO_WEBS = [(bad, "a") for bad in (None, 5, True, "web", [], [[], [], [], []], Web)]
NO_INTEGERS = [(bad, "a") for bad in (None, True, False, "1", 1.0, [1], (1,), b"1")]
NO_LISTS = [(bad, "a") for bad in (None, 5, True, "01", b"01", {0: 1}, {0, 1}, range(2), 1.0)]
NO_ROWS = NO_LISTS + [(bad, "a") for bad in ([True], (False, 0), ["0"], [None], [1.0], [[1]])]
NO_DUES = [(bad, "a") for bad in (
    5, True, "c1", "chips", [], ["chips"], ["chips", 1, 2], [1, "chips"], ("chips", None), ["chips", True],
    ["chips", 1.0], ["chips", "1"], (None, 1), {"chips": 1})]
WRONG_DUES = [(("chips", -1), "c"), (["less", -1], "c"), (("", 1), "c"), (("chip", 1), "c"), (("Chips", 0), "c"),
              (("chip", 10 ** 41), "c"), (("chips", 10 ** 40 + 1), "f"), (["less", 10 ** 41], "f")]
NO_TEXTS = [(bad, "a") for bad in (None, 5, True, b"web", ["web"])]


def numbers(*bad):
    return [(number, "c") for number in bad]


def too_much(*bad):
    return [(number, "f") for number in bad]


def as_told(error):
    """True if an error of the package carries one string that is not empty."""
    return len(error.args) == 1 and isinstance(error.args[0], str) and error.args[0] != ""


class Refusals(unittest.TestCase):
    """What tests of wrong arguments share."""

    def refused(self, error, call, *args, **named):
        before = copy.deepcopy(list(args))
        with self.assertRaises(PurseError) as caught:
            call(*args, **named)
        self.assertIs(type(caught.exception), error, (call, args, named))
        self.assertTrue(as_told(caught.exception))
        self.assertEqual(list(args), before)
        return caught.exception

    def each_fault(self, call, good, faults):
        """Each wrong value in the place of a good one; faults has a list of (value, letter) for each argument."""
        call(*good)
        self.assertEqual(len(good), len(faults))
        for place, wrong in enumerate(faults):
            for value, letter in wrong:
                args = replaced(good, (place, value))
                with self.subTest(call=getattr(call, "__name__", call), args=args):
                    self.refused(ERRORS[letter], call, *args)
        self.two_faults(call, good, faults)

    def two_faults(self, call, good, faults):
        """Two faults side by side, one of each letter for each argument."""
        shown = [list({letter: (value, letter) for value, letter in wrong}.values()) for wrong in faults]
        for one in range(len(good)):
            for two in range(one):
                for value, letter in shown[one]:
                    for other, second in shown[two]:
                        args = replaced(good, (one, value), (two, other))
                        with self.subTest(call=getattr(call, "__name__", call), args=args):
                            self.refused(ERRORS[min(letter, second)], call, *args)


def replaced(args, *changes):
    found = list(args)
    for place, value in changes:
        found[place] = value
    return found
