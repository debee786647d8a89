"""What calls of webs with calls ask of their arguments."""

from pursewebs.checks import check_moving, check_part_range
from pursewebs.web import check_web
from pursewebs.whole import as_stands, check_least, check_most, check_whole, whole_list


def check_call_kinds(web, k, calls):
    """Raise WrongKind if these are no web, no k and no list of integers."""
    check_web(web)
    check_whole(k)
    whole_list(calls)


def called_stands(web, calls):
    """The set of the calls, a list of integers; WrongNumber if one of them is no stand."""
    return as_stands(calls, web.size)


def check_calls_move(web, stands):
    """Raise WrongWeb if one of the stands has no steps."""
    for stand in stands:
        check_moving(web, stand)


def checked_calls(web, k, calls, most):
    """The set of the calls, after a look at a web, calls and a k of at most most."""
    check_call_kinds(web, k, calls)
    check_least(k, 0)
    stands = called_stands(web, calls)
    check_calls_move(web, stands)
    check_most(k, most)
    return stands


def checked_row_calls(web, k, calls, row, extra, most):
    """The same with a row of parts in 0 .. k + extra as well."""
    whole_list(row)
    check_call_kinds(web, k, calls)
    check_part_range(row, web.size, k + extra)
    return checked_calls(web, k, calls, most)
