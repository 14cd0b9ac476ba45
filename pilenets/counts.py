"""Rows counted: those that come out of a net, of lines side by side, of one pile."""

from itertools import permutations
from math import factorial

from pilenets.errors import NoNumber
from pilenets.found import comes_out

MOST_OF_A_NET = 6
MOST_BY_SHAPES = 60
MOST_BY_SUMS = 400


def how_many_rows(net, length):
    """How many rows of a length come out of a net."""
    kept = rows_kept_in(net, length)
    return factorial(length) - len(kept)


def rows_kept_in(net, length):
    """The rows of a length that never come out of a net, in order."""
    refuse_no_length(length, MOST_OF_A_NET)
    return [row for row in rows_of(length) if not comes_out(net, row)]


def shapes_of(length):
    """The shapes of a length, the greater list first."""
    return shapes_within(length, length, length)


def how_many_fillings(shape):
    """In how many ways a shape is filled by the numbers from 1 to its length, rising to the right and down."""
    hooks = 1
    for number, row in enumerate(shape):
        for column in range(row):
            hooks = hooks * (row - column + how_many_below(shape, number, column))
    return factorial(sum(shape)) // hooks


def rows_by_shapes(length, many):
    """How many rows of a length have no falling piece longer than so many places."""
    refuse_no_length(length, MOST_BY_SHAPES)
    # Of great lengths there are too many shapes to go through: but for so many
    # places all of them count, or all but the one that is a single column.
    if many >= length:
        return factorial(length)
    if many == length - 1:
        return factorial(length) - 1
    return sum([how_many_fillings(shape) ** 2 for shape in shapes_within(length, many, length)])


def rows_by_sums(length):
    """How many rows of a length come out of one pile."""
    refuse_no_length(length, MOST_BY_SUMS)
    counts = [1]
    for further in range(1, length + 1):
        counts.append(sum([counts[k] * counts[further - 1 - k] for k in range(further)]))
    return counts[length]


def refuse_no_length(length, most):
    """Refuse a length below 0 or above the most of which something is told."""
    if not 0 <= length <= most:
        raise NoNumber("nothing is told of this length")


def rows_of(length):
    """The rows of all numbers from 0 to below a length, in order."""
    return [list(numbers) for numbers in permutations(range(length))]


def shapes_within(length, most, widest):
    """The shapes of a length with at most so many rows, none wider than this, the greater list first."""
    if length == 0:
        return [[]]
    shapes = []
    for first in reversed(range(1, min(length, widest) + 1)):
        # The rows below are no wider than the first one: together they must hold the rest.
        if first * most >= length:
            shapes.extend([[first, *rest] for rest in shapes_within(length - first, most - 1, first)])
    return shapes


def how_many_below(shape, number, column):
    """How many places of a shape stand below one, told by its row's number and its column."""
    return len([row for row in shape[number + 1:] if row > column])
