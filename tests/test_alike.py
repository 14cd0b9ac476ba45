"""Point 45: the first row that comes out of just one of two nets."""

import functools
import itertools
import unittest

from pilenets.alike import first_parting
from pilenets.errors import NoNumber, TooMany
from pilenets.found import comes_out
from tests.by_definition import (
    IN, OUT, TOP, Checks, is_out, nets_of_stations, one_behind_the_other, rows_up_to, side_by_side,
)

PILE = side_by_side(["pile"])
LINE = side_by_side(["line"])
STRAIGHT = ([], [(IN, OUT)])
NOTHING = ([], [])


@functools.cache
def out_of(stations, ways):
    """For each row of at most three numbers whether it comes out."""
    net = list(stations), list(ways)
    return [is_out(net, row) for row in rows_up_to(3)]


def first_of_two(one, other):
    """The first row of at most three numbers that parts two nets, or None."""
    outs = [out_of(tuple(net[0]), tuple(net[1])) for net in (one, other)]
    return next((row for row, a, b in zip(rows_up_to(3), *outs) if a != b), None)


class FirstParting(Checks):

    def parted(self, row, most, one, other):
        self.told(row, first_parting, one, other, most)
        self.told(row, first_parting, other, one, most)

    def test_ordinary_nets(self):
        self.parted([1, 0], 4, PILE, LINE)
        self.parted([1, 2, 0], 4, PILE, side_by_side(["pile", "line"]))
        self.parted([1, 2, 0], 4, PILE, side_by_side(["line", "line"]))
        self.parted([1, 2, 3, 0], 4, side_by_side(["pile"] * 2), side_by_side(["pile"] * 3))
        self.parted([1, 2, 0], 4, PILE, one_behind_the_other(["pile", "pile"]))
        self.parted([2, 1, 0], 4, side_by_side(["line", "line"]), side_by_side(["line"] * 3))
        self.parted([3, 2, 1, 0], 4, side_by_side(["line"] * 3), side_by_side(["pile", "line"]))

    def test_nets_that_are_alike(self):
        for most in range(5):
            for one, other in [
                (PILE, PILE), (LINE, STRAIGHT), (NOTHING, (["pile"], [])), (LINE, one_behind_the_other(["line"] * 3)),
                (PILE, (["pile"], [(IN, OUT)] + PILE[1])), (PILE, one_behind_the_other(["pile", "line"])),
                (side_by_side(["line", "pile"]), side_by_side(["pile", "line"])),
            ]:
                self.parted(None, most, one, other)

    def test_nets_that_part_at_once(self):
        for net in [PILE, LINE, STRAIGHT, side_by_side(["line", "pile", "line"])]:
            self.parted(None, 0, net, NOTHING)
            for most in range(1, 5):
                self.parted([0], most, net, NOTHING)
                self.parted([0], most, net, (["pile", "line"], [(IN, 0), (1, OUT)]))

    def test_up_to_the_length_itself(self):
        for one, other, row in [
            (PILE, LINE, [1, 0]), (PILE, side_by_side(["pile", "line"]), [1, 2, 0]),
            (side_by_side(["pile"] * 2), side_by_side(["pile"] * 3), [1, 2, 3, 0]),
        ]:
            for most in range(5):
                self.parted(row if most >= len(row) else None, most, one, other)

    def test_the_first_as_lists_of_the_shortest(self):
        for one, other, first, further in [
            (PILE, side_by_side(["line", "line"]), [1, 2, 0], [2, 1, 0]),
            (side_by_side(["line"] * 2), side_by_side(["line"] * 3), [2, 1, 0], [0, 3, 2, 1]),
            (PILE, one_behind_the_other(["pile", "pile"]), [1, 2, 0], [0, 2, 3, 1]),
        ]:
            for row in [first, further]:
                self.assertNotEqual(is_out(one, row), is_out(other, row))
            self.parted(first, 4, one, other)

    def test_all_nets_of_at_most_one_station(self):
        nets = [net for many in range(2) for net in nets_of_stations(many)]
        for one, other in itertools.product(nets, repeat=2):
            self.exactly(first_parting(one, other, 3), first_of_two(one, other))

    def test_nets_of_two_stations(self):
        nets = list(nets_of_stations(2))[::11]
        for one, other in itertools.combinations(nets, 2):
            self.exactly(first_parting(one, other, 3), first_of_two(one, other))

    def test_nets_of_six_stations(self):
        wide, long = side_by_side(["line"] * 6), one_behind_the_other(["pile"] * 6)
        self.parted(None, 3, wide, long)
        self.parted([2, 1, 0], 3, wide, (["line"] * 6, [(IN, 2), (IN, 5), (2, OUT), (5, OUT)]))
        self.parted([1, 2, 0], 3, long, (["pile"] * 6, [(IN, 3), (3, OUT)]))
        self.parted([0], 3, long, (["pile"] * 6, long[1][1:]))

    def test_no_row_has_too_many_standings(self):
        # Nothing is promised of four numbers and so many stations, but this refusal is none of the point's.
        net = one_behind_the_other(["pile"] * 6)
        net = (net[0], [(IN, OUT)] + net[1])
        self.assertRaises(TooMany, comes_out, net, [3, 2, 1, 0])
        self.parted(None, 4, net, net)

    def test_lengths_of_which_nothing_is_told(self):
        for most in [5, 6, 7, 60, -1, -2, -4, 10 ** 29, -10 ** 29, TOP, -TOP]:
            for one, other in [(PILE, LINE), (PILE, PILE), (NOTHING, STRAIGHT), (NOTHING, NOTHING)]:
                self.refused(NoNumber, first_parting, one, other, most)


if __name__ == "__main__":
    unittest.main()
