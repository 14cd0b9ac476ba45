"""Points 39 to 42: rows counted by a net, by shapes and fillings, and by sums."""

import functools
import itertools
import math
import unittest
from fractions import Fraction

from pilenets.counts import (
    how_many_fillings, how_many_rows, rows_by_shapes, rows_by_sums, rows_kept_in, shapes_of,
)
from pilenets.errors import NoNumber, TooMany
from pilenets.found import comes_out
from tests.by_definition import (
    IN, OUT, TOP, Checks, is_out, nets_of_stations, one_behind_the_other, pieces_that_fall, rows_of, side_by_side,
)

PILE = side_by_side(["pile"])
LINE = side_by_side(["line"])
STRAIGHT = ([], [(IN, OUT)])
# Of five numbers more than two thousand standings are found, of four only 1555.
WIDE = (["pile"] * 6, [(IN, s) for s in range(6)])


class RowsOfANet(Checks):

    def rows(self, kept_in, net, length):
        """These rows don't come out, and all others of the length do."""
        self.told(kept_in, rows_kept_in, net, length)
        self.told(math.factorial(length) - len(kept_in), how_many_rows, net, length)

    def test_ordinary_nets(self):
        self.rows([[1, 2, 0]], PILE, 3)
        self.rows([[0, 2, 1], [1, 0, 2], [1, 2, 0], [2, 0, 1], [2, 1, 0]], LINE, 3)
        self.rows([[2, 1, 0]], side_by_side(["line", "line"]), 3)
        self.rows([[1, 2, 3, 0]], side_by_side(["pile", "pile"]), 4)

    def test_the_row_of_no_numbers_comes_out_of_each_net(self):
        for net in [PILE, LINE, STRAIGHT, WIDE, ([], []), (["pile", "line"], [])]:
            self.rows([], net, 0)

    def test_nets_without_ways_and_straight_out(self):
        for length in range(5):
            self.rows(rows_of(length) if length else [], ([], []), length)
            self.rows(rows_of(length)[1:], STRAIGHT, length)
            self.rows(rows_of(length) if length else [], (["pile"], [(0, OUT)]), length)

    def test_by_definition(self):
        for many, most in [(0, 4), (1, 4), (2, 3)]:
            for net in nets_of_stations(many):
                for length in range(most + 1):
                    kept_in = [row for row in rows_of(length) if not is_out(net, row)]
                    self.exactly(rows_kept_in(net, length), kept_in)
                    self.exactly(how_many_rows(net, length), len(rows_of(length)) - len(kept_in))

    def test_length_5_and_6(self):
        for net in [PILE, side_by_side(["line", "line"]), side_by_side(["pile", "line"])]:
            for length in [5, 6]:
                self.rows([row for row in rows_of(length) if not is_out(net, row)], net, length)
        self.assertEqual(how_many_rows(side_by_side(["pile", "pile"]), 6), 513)
        self.assertEqual(how_many_rows(one_behind_the_other(["pile", "pile"]), 6), 720)
        self.assertEqual(how_many_rows(side_by_side(["line"] * 3), 6), 513)

    def test_lengths_of_which_nothing_is_told(self):
        for length in [7, 8, 60, -1, -2, -6, 10 ** 29, -10 ** 29, TOP, -TOP]:
            for net in [PILE, STRAIGHT, ([], []), WIDE]:
                self.refused(NoNumber, how_many_rows, net, length)
                self.refused(NoNumber, rows_kept_in, net, length)

    def test_too_many_standings(self):
        self.rows(rows_of(4), WIDE, 4)
        for length in [5, 6]:
            self.refused(TooMany, how_many_rows, WIDE, length)
            self.refused(TooMany, rows_kept_in, WIDE, length)

    def test_too_many_standings_of_some_rows_alone(self):
        # Rising rows go straight out at once; others wander through the piles.
        net = one_behind_the_other(["pile"] * 6)
        net = (net[0], [(IN, OUT)] + net[1])
        self.assertIs(comes_out(net, [0, 1, 2, 3]), True)
        self.rows([], net, 3)
        self.refused(TooMany, how_many_rows, net, 4)
        self.refused(TooMany, rows_kept_in, net, 4)


def shapes_by_sums(length):
    """All lists of whole numbers from 1 on that together are a length and never rise, the greatest first."""
    lists = []
    for cuts in itertools.product([True, False], repeat=max(0, length - 1)):
        ends = [0] + [place + 1 for place, cut in enumerate(cuts) if cut] + [length]
        lists.append([b - a for a, b in zip(ends, ends[1:]) if b > a])
    return sorted((shape for shape in lists if shape == sorted(shape, reverse=True)), reverse=True)


def fillings_written_down(shape):
    """How many ways to put the numbers into a shape rise to the right and down, tried one by one."""
    places = [(row, column) for row, many in enumerate(shape) for column in range(many)]
    fillings = 0
    for numbers in itertools.permutations(range(1, len(places) + 1)):
        filling = dict(zip(places, numbers))
        fillings += all(
            filling.get((a, b + 1), number + 1) > number and filling.get((a + 1, b), number + 1) > number
            for (a, b), number in filling.items()
        )
    return fillings


@functools.cache
def fillings_by_corners(shape):
    """How many fillings a shape (a tuple) has: the greatest number stands in one of its corners."""
    if not shape:
        return 1
    fillings = 0
    for row, many in enumerate(shape):
        if row == len(shape) - 1 or shape[row + 1] < many:
            less = shape[:row] + (many - 1,) + shape[row + 1:]
            fillings += fillings_by_corners(tuple(part for part in less if part))
    return fillings


class Shapes(Checks):

    def test_as_the_document_writes_them(self):
        self.told([[]], shapes_of, 0)
        self.told([[1]], shapes_of, 1)
        self.told([[2], [1, 1]], shapes_of, 2)
        self.told([[3], [2, 1], [1, 1, 1]], shapes_of, 3)
        self.told([[4], [3, 1], [2, 2], [2, 1, 1], [1, 1, 1, 1]], shapes_of, 4)

    def test_every_length_up_to_fourteen(self):
        for length in range(15):
            self.told(shapes_by_sums(length), shapes_of, length)
        self.assertEqual(len(shapes_of(14)), 135)


class Fillings(Checks):

    def test_ordinary_shapes(self):
        self.told(1, how_many_fillings, [])
        self.told(1, how_many_fillings, [1])
        self.told(2, how_many_fillings, [2, 1])
        self.told(5, how_many_fillings, [3, 2])
        self.told(16, how_many_fillings, [3, 2, 1])
        self.told(35, how_many_fillings, [4, 2, 1])

    def test_one_row_and_one_column(self):
        for length in [1, 2, 7, 14]:
            self.told(1, how_many_fillings, [length])
            self.told(1, how_many_fillings, [1] * length)
        self.told(1, how_many_fillings, [40])

    def test_shapes_written_down(self):
        for length in range(8):
            for shape in shapes_by_sums(length):
                self.told(fillings_written_down(shape), how_many_fillings, shape)

    def test_every_shape_up_to_fourteen(self):
        for length in range(15):
            for shape in shapes_by_sums(length):
                self.told(fillings_by_corners(tuple(shape)), how_many_fillings, shape)

    def test_two_rows_of_forty(self):
        self.told(math.comb(80, 40) // 41, how_many_fillings, [40, 40])
        for shape in [[40, 1], [40, 7], [40, 39], [39, 39], [21, 20]]:
            self.told(fillings_by_corners(tuple(shape)), how_many_fillings, shape)

    def test_seven_rows_of_seven(self):
        self.told(475073684264389879228560, how_many_fillings, [7] * 7)
        for shape in [[7] * 7, [7] * 6 + [1], [7, 6, 5, 4, 3, 2, 1], [7, 7, 3, 3, 3, 1, 1], [7] * 5]:
            self.told(fillings_by_corners(tuple(shape)), how_many_fillings, shape)


def rows_of_three(length):
    """How many rows have no falling piece of four places, by a sum that goes through no shapes."""
    total = Fraction(0)
    for k in range(length + 1):
        part = math.comb(2 * k, k) * math.comb(length, k) ** 2 * (3 * k * k + 2 * k + 1 - length - 2 * k * length)
        total += Fraction(part, (k + 1) ** 2 * (k + 2) * (length - k + 1))
    return int(2 * total)


class RowsByShapes(Checks):

    def test_ordinary_numbers(self):
        self.told(1, rows_by_shapes, 3, 1)
        self.told(5, rows_by_shapes, 3, 2)
        self.told(6, rows_by_shapes, 3, 3)
        self.told(14, rows_by_shapes, 4, 2)
        self.told(23, rows_by_shapes, 4, 3)

    def test_rows_written_down(self):
        for length in range(7):
            longest = [max(map(len, pieces_that_fall(row))) for row in rows_of(length)]
            for many in range(9):
                self.told(sum(long <= many for long in longest), rows_by_shapes, length, many)

    def test_every_number_of_places_up_to_sixteen(self):
        for length in range(17):
            shapes = shapes_by_sums(length)
            for many in range(length + 2):
                squares = [fillings_by_corners(tuple(shape)) ** 2 for shape in shapes if len(shape) <= many]
                self.told(sum(squares), rows_by_shapes, length, many)

    def test_at_most_three_places_up_to_sixty(self):
        for length in range(61):
            self.told(0 if length else 1, rows_by_shapes, length, 0)
            self.told(1, rows_by_shapes, length, 1)
            self.told(math.comb(2 * length, length) // (length + 1), rows_by_shapes, length, 2)
            self.told(rows_of_three(length), rows_by_shapes, length, 3)

    def test_as_many_places_as_there_are_numbers_one_fewer_and_far_more(self):
        for length in range(1, 61):
            every = math.factorial(length)
            self.told(every - 1, rows_by_shapes, length, length - 1)
            for many in [length, length + 1, 61, 400, 10 ** 29, TOP]:
                self.told(every, rows_by_shapes, length, many)
        for many in [0, 1, 60, TOP]:
            self.told(1, rows_by_shapes, 0, many)

    def test_two_places_fewer_than_numbers(self):
        # One shape alone has as many rows as numbers, one alone one row fewer: that has 16 fillings.
        self.told(math.factorial(17) - 1 - 16 ** 2, rows_by_shapes, 17, 15)

    def test_lengths_of_which_nothing_is_told(self):
        for length in [61, 62, 400, -1, -2, -60, 10 ** 29, -10 ** 29, TOP, -TOP]:
            for many in [0, 1, 3, 60, 61, TOP]:
                self.refused(NoNumber, rows_by_shapes, length, many)


class RowsBySums(Checks):

    def test_the_first_lengths(self):
        for length, many in enumerate([1, 1, 2, 5, 14, 42, 132, 429, 1430]):
            self.told(many, rows_by_sums, length)

    def test_every_length_up_to_four_hundred(self):
        for length in [*range(80), 199, 200, 399, 400]:
            self.told(math.comb(2 * length, length) // (length + 1), rows_by_sums, length)

    def test_as_many_as_come_out_of_one_pile(self):
        for length in range(7):
            self.assertEqual(rows_by_sums(length), how_many_rows(PILE, length))

    def test_lengths_of_which_nothing_is_told(self):
        for length in [401, 402, 4000, -1, -2, -400, 10 ** 29, -10 ** 29, TOP, -TOP]:
            self.refused(NoNumber, rows_by_sums, length)


if __name__ == "__main__":
    unittest.main()
