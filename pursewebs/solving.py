"""Equations between the shares of stands: used steps, the determinant and the solution."""

from pursewebs.bids import least_lower
from pursewebs.checks import check_list, check_stand
from pursewebs.errors import WrongNumber, WrongWeb
from pursewebs.share import Share
from pursewebs.sharepaper import check_share_row, exact_shares, fallen_shares, told_steps
from pursewebs.shareparts import part_of
from pursewebs.web import check_web
from pursewebs.whole import check_size, whole_list


def used_by(web, shares, ranks, stand):
    """The two used steps of the stand, None at rank 0."""
    rank = ranks[stand]
    if rank == 0:
        return None
    order, firsts, seconds = told_steps(web, shares, stand)
    first = least_lower(firsts, ranks, rank)
    second = least_lower(seconds, ranks, rank)
    if order < 0:
        return (first, second)
    if web.marks[stand] == 1 or (order == 0 and ranks[first] < rank):
        return (first, first)
    return (second, second)


def used_steps(web, shares):
    """The used steps of each stand at an exact share row."""
    check_share_row(web, shares)
    if not exact_shares(web, shares):
        raise WrongNumber("the share row is not exact")
    ranks, _ = fallen_shares(web, shares)
    return tuple([used_by(web, shares, ranks, stand) for stand in range(web.size)])


def check_pairs(web, pairs):
    """Raise what is wrong with a web and the pairs of its stands."""
    check_web(web)
    check_list(pairs)
    told = [whole_list(pair) for pair in pairs if pair is not None]
    check_size(pairs, web.size)
    for pair in told:
        check_size(pair, 2)
        check_stand(web, pair[0])
        check_stand(web, pair[1])


def equations(web, pairs):
    """A row of integers for each stand with a pair: its coefficients, and then what they give."""
    paired = [stand for stand in range(web.size) if pairs[stand] is not None]
    columns = {stand: place for place, stand in enumerate(paired)}
    found = []
    for stand in paired:
        row = [0] * (len(paired) + 1)
        row[columns[stand]] = 2
        for step in pairs[stand]:
            if step in columns:
                row[columns[step]] -= 1
            else:
                row[len(paired)] = row[len(paired)] + part_of(web, step)
        found.append(row)
    return (paired, found)


def cleared(rows):
    """The determinant of the coefficients of the rows, and the rows cleared by it.

    Cleared rows have the determinant at their own place and 0 at all other ones, if it is not 0. All
    numbers stay integers, since each division by the place cleared before comes out even.
    """
    before = 1
    size = len(rows)
    for place in range(size):
        head = rows[place]
        lead = head[place]
        # No coefficient beside its own place is above 0 and no row has a sum below 0, and clearing keeps this.
        # So a row with 0 at its own place has 0 at all places not yet cleared: no exchange of rows could help.
        if lead == 0:
            return (0, rows)
        rows = [row if at == place else row_cleared(row, head, place, before) for at, row in enumerate(rows)]
        before = lead
    return (before, rows)


def row_cleared(row, head, place, before):
    """The row without its coefficient at this place, by the row head that has its own place there."""
    return [(head[place] * number - row[place] * head[at]) // before for at, number in enumerate(row)]


def determinant(web, pairs):
    """The determinant of the equations of the pairs."""
    check_pairs(web, pairs)
    _, rows = equations(web, pairs)
    return cleared(rows)[0]


def solved(web, pairs):
    """The share row that solves the equations of the pairs."""
    check_pairs(web, pairs)
    paired, rows = equations(web, pairs)
    found, rows = cleared(rows)
    if found == 0:
        raise WrongWeb("the equations have no single solution")
    shares = [Share(part_of(web, stand)) for stand in range(web.size)]
    for place, stand in enumerate(paired):
        shares[stand] = Share(rows[place][len(paired)], rows[place][place])
    return tuple(shares)
