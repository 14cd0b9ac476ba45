"""Nets told alike: the first row that comes out of just one of two nets."""

from pilenets.counts import refuse_no_length, rows_of
from pilenets.doings import last_standing
from pilenets.found import standings_found

MOST_OF_TWO_NETS = 4


def first_parting(one, other, most):
    """The first row of at most so many numbers that comes out of just one of two nets, or None."""
    refuse_no_length(most, MOST_OF_TWO_NETS)
    for length in range(most + 1):
        for row in rows_of(length):
            if is_brought_out(one, row) != is_brought_out(other, row):
                return row
    return None


def is_brought_out(net, row):
    """Whether a row put to its order comes out, however many standings that takes."""
    last = last_standing(net, len(row))
    return last in standings_found(net, row, last, None)
