"""[2], [3], [9] and [13]: integers, lists, errors, dues and shares."""

import unittest
from fractions import Fraction

from pursewebs import errors
from pursewebs.dues import due_from_word, due_number, due_slope, due_word
from pursewebs.errors import PurseError, TooMuch, WrongDeed, WrongKind, WrongNumber, WrongText, WrongWeb
from pursewebs.share import Share
from pursewebs.whole import as_row, as_stands, is_integer
from tests.plain import due_number as plain_due
from tests.refusals import NO_DUES, NO_INTEGERS, NO_ROWS, NO_TEXTS, WRONG_DUES, Refusals, as_told, numbers

SIX = (WrongKind, WrongNumber, WrongWeb, WrongText, WrongDeed, TooMuch)
DUES = [None] + [(word, x) for word in ("chips", "less") for x in (0, 1, 2, 7, 10 ** 40)]


class Errors(unittest.TestCase):
    def test_the_tree_of_errors(self):
        self.assertEqual(PurseError.__bases__, (Exception,))
        for error in SIX:
            self.assertTrue(issubclass(error, PurseError))
            self.assertEqual(error.__module__, "pursewebs.errors")
            self.assertEqual([other for other in SIX if issubclass(error, other)], [error])

    def test_each_can_be_raised_with_a_string(self):
        for error in SIX + (PurseError,):
            self.assertTrue(as_told(error("why")))
            self.assertIs(getattr(errors, error.__name__), error)


class Whole(Refusals):
    def test_is_integer(self):
        for thing in (0, 1, -1, 10 ** 100):
            self.assertIs(is_integer(thing), True)
        for thing in (True, False, None, "1", 1.0, [1], (), {}, b"1", int, Share(1)):
            self.assertIs(is_integer(thing), False)

    def test_as_row(self):
        self.assertEqual(as_row([3, -1, 3], 3), (3, -1, 3))
        self.assertEqual(as_row((3, 10 ** 50), 2), (3, 10 ** 50))
        self.assertEqual(as_row([], 0), ())
        self.assertIs(type(as_row([1], 1)), tuple)
        for bad, _ in NO_ROWS:
            self.refused(WrongKind, as_row, bad, 1)
        self.refused(WrongKind, as_row, [1, True], 3)
        for bad, size in (([], 1), ([1, 2], 1), ((1,), 2), ((1,), 0)):
            self.refused(WrongNumber, as_row, bad, size)

    def test_as_stands(self):
        self.assertEqual(as_stands([3, 0, 3, 1], 4), (0, 1, 3))
        self.assertEqual(as_stands((2,), 3), (2,))
        self.assertEqual(as_stands([], 5), ())
        self.assertEqual(as_stands([], 0), ())
        for bad, _ in NO_ROWS:
            self.refused(WrongKind, as_stands, bad, 2)
        self.refused(WrongKind, as_stands, [9, None], 2)
        for bad, size in (([2], 2), ([-1], 2), ([0, 10 ** 30], 2), ([0], 0)):
            self.refused(WrongNumber, as_stands, bad, size)


class Shares(Refusals):
    PARTS = [(top, bottom) for top in range(-4, 5) for bottom in (-3, -2, -1, 1, 2, 3, 4, 6)]

    def check(self, share, fraction):
        self.assertIs(type(share), Share)
        self.assertEqual((share.top, share.bottom), (fraction.numerator, fraction.denominator))

    def test_lowest_terms(self):
        for top, bottom in self.PARTS:
            self.check(Share(top, bottom), Fraction(top, bottom))
        self.check(Share(0, -7), Fraction(0))
        self.check(Share(6), Fraction(6))
        self.check(Share(10 ** 60, -2 * 10 ** 60), Fraction(-1, 2))

    def test_sums_differences_products(self):
        for one in self.PARTS:
            for two in self.PARTS[::3]:
                here, there = Fraction(*one), Fraction(*two)
                self.check(Share(*one) + Share(*two), here + there)
                self.check(Share(*one) - Share(*two), here - there)
                self.check(Share(*one) * Share(*two), here * there)
            for number in (-3, 0, 1, 10 ** 45):
                here = Fraction(*one)
                self.check(Share(*one) + number, here + number)
                self.check(number + Share(*one), here + number)
                self.check(Share(*one) - number, here - number)
                self.check(number - Share(*one), number - here)
                self.check(Share(*one) * number, here * number)
                self.check(number * Share(*one), here * number)

    def test_equality(self):
        self.assertTrue(Share(2, 4) == Share(-1, -2))
        self.assertFalse(Share(2, 4) != Share(1, 2))
        self.assertTrue(Share(1, 2) != Share(1, 3))
        self.assertFalse(Share(2) == 2)
        self.assertTrue(Share(2) != 2)
        self.assertFalse(Share(0) == False)  # noqa: E712
        self.assertFalse(Share(1, 2) == "1/2")

    def test_halved_compared_str(self):
        for one in self.PARTS:
            self.check(Share(*one).halved(), Fraction(*one) / 2)
            for two in self.PARTS[::5]:
                here, there = Fraction(*one), Fraction(*two)
                self.assertEqual(Share(*one).compared(Share(*two)), (here > there) - (here < there))
            for number in (-2, 0, 1):
                self.assertEqual(Share(*one).compared(number), (Fraction(*one) > number) - (Fraction(*one) < number))
        self.assertEqual([str(Share(-3, 2)), str(Share(4)), str(Share(0, 5)), str(Share(3, -6))],
                         ["-3/2", "4/1", "0/1", "-1/2"])

    def test_operands_stay(self):
        one, two = Share(1, 2), Share(1, 3)
        made = one + two
        made = made * one - two
        self.assertEqual([str(one), str(two), str(made)], ["1/2", "1/3", "1/12"])

    def test_refusals(self):
        self.each_fault(Share, [1, 2], [NO_INTEGERS, NO_INTEGERS + numbers(0)])
        for bad in (True, None, "1", 1.0, [1], Fraction(1)):
            self.refused(WrongKind, Share(1).compared, bad)


class Dues(Refusals):
    def test_due_number(self):
        for due in DUES:
            for k in (0, 1, 2, 6, 7, 8, 10 ** 40, 10 ** 50):
                self.assertEqual(due_number(due, k), plain_due(due, k))
                self.assertTrue(0 <= due_number(due, k) <= k + 1)
        self.assertEqual([due_number(None, 3), due_number(["chips", 2], 3), due_number(("chips", 9), 3)], [4, 2, 4])
        self.assertEqual([due_number(("less", 0), 3), due_number(("less", 3), 3), due_number(("less", 5), 3)],
                         [4, 1, 0])

    def test_due_slope(self):
        for due in DUES:
            for m in (1, 2, 10 ** 41):
                self.assertEqual(due_slope(due, m), 0 if due and due[0] == "chips" else m)

    def test_due_word(self):
        self.assertEqual([due_word(due) for due in (None, ("chips", 0), ["less", 12])], ["-", "c0", "l12"])
        for due in DUES:
            self.assertEqual(due_from_word(due_word(due)), due)
        self.assertIs(type(due_from_word("c5")), tuple)

    def test_wrong_words(self):
        for word in ("", "c", "l", "x1", "C1", "1", "c-1", "c+1", "c01", "c 1", "c1 ", " c1", "c1_0", "--", "-1", "c1\n",
                     "c\u0663", "cc1", "c1.0", f"c{10 ** 40 + 1}", "c" + "9" * 50, "l" + "9" * 5000, "c" + "0" * 6000,
                     "l" + "9" * 39000):
            self.refused(WrongText, due_from_word, word)
        self.assertEqual(due_from_word(f"l{10 ** 40}"), ("less", 10 ** 40))
        for bad, _ in NO_TEXTS:
            self.refused(WrongKind, due_from_word, bad)

    def test_refusals(self):
        self.each_fault(due_number, [("chips", 1), 2], [NO_DUES + WRONG_DUES, NO_INTEGERS + numbers(-1, -10 ** 41)])
        self.each_fault(due_slope, [None, 2], [NO_DUES + WRONG_DUES, NO_INTEGERS + numbers(0, -1)])
        self.each_fault(due_word, [["less", 1]], [NO_DUES + WRONG_DUES])


if __name__ == "__main__":
    unittest.main()
