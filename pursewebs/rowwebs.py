"""The numbers of lines, told by a formula."""

from pursewebs.whole import GREATEST, check_least, check_most, check_one_or_two, check_range, check_whole

LONGEST_LINE = 40


def row_number(n, mark, k, stand):
    """The number of the stand of a line of n at k."""
    check_whole(n, mark, k, stand)
    check_least(n, 1)
    check_one_or_two(mark)
    check_least(k, 0)
    check_range(stand, 0, n)
    bend = n * (n - 1) // 2
    if mark == 2:
        check_least(k + 1, bend)
    check_most(n, LONGEST_LINE)
    check_most(k, GREATEST)
    total = k + 1 if mark == 1 else k + 1 + bend
    number = total // n * stand + max(0, stand - n + total % n)
    return number if mark == 1 else number - stand * (stand - 1) // 2
