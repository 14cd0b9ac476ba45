"""Points 43 and 44: nets beside one another and one behind the other, and a doing for both."""

import copy
import itertools
import unittest

from pilenets.doings import brings_out
from pilenets.errors import NoDoing, NoRow
from pilenets.found import way_out
from pilenets.joined import doing_beside, nets_behind, nets_beside
from pilenets.nets import net_of
from pilenets.texts import net_text
from tests.by_definition import (
    ALIKE, IN, OUT, TOP, Checks, is_out, nets_of_stations, one_behind_the_other, side_by_side,
)

PILE = side_by_side(["pile"])
LINE = side_by_side(["line"])
STRAIGHT = ([], [(IN, OUT)])
NOTHING = ([], [])
SMALL = [net for many in range(2) for net in nets_of_stations(many)]
# Some of all nets of two stations, each shape of ways between them and each pair of words among them.
OF_TWO = list(nets_of_stations(2))[::17]


def named(net, name):
    """A net's ways, each station told by a name of the net's and its number."""
    return [tuple(end if end < 0 else (name, end) for end in way) for way in net[1]]


def numbered(one, other, ways):
    """The net of both nets' stations and of ways by name."""
    numbers = {("one", number): number for number in range(len(one[0]))}
    numbers.update({("other", number): len(one[0]) + number for number in range(len(other[0]))})
    return one[0] + other[0], sorted({tuple(numbers.get(end, end) for end in way) for way in ways})


def beside(one, other):
    return numbered(one, other, named(one, "one") + named(other, "other"))


def behind(one, other):
    first, second = named(one, "one"), named(other, "other")
    return numbered(one, other, (
        [way for way in first if way[1] != OUT] + [way for way in second if way[0] != IN]
        + [(a, b) for a, end in first if end == OUT for begin, b in second if begin == IN]
    ))


class Beside(Checks):

    def test_ordinary_nets(self):
        self.told((["pile", "line"], [(IN, 0), (IN, 1), (0, OUT), (1, OUT)]), nets_beside, PILE, LINE)
        self.told((["line", "pile"], [(IN, 0), (IN, 1), (0, OUT), (1, OUT)]), nets_beside, LINE, PILE)
        one = (["pile", "line"], [(IN, 0), (0, 1), (1, OUT)])
        other = (["line", "pile", "line"], [(IN, 1), (0, 2), (1, 0), (2, OUT)])
        self.told(
            (["pile", "line", "line", "pile", "line"], [
                (IN, 0), (IN, 3), (0, 1), (1, OUT), (2, 4), (3, 2), (4, OUT),
            ]), nets_beside, one, other,
        )

    def test_a_way_straight_out_stands_once(self):
        with_both = (["pile"], [(IN, OUT), (IN, 0), (0, OUT)])
        self.told((["pile", "pile"], [(IN, OUT), (IN, 0), (IN, 1), (0, OUT), (1, OUT)]), nets_beside, with_both, with_both)
        self.told((["pile", "line"], [(IN, OUT), (IN, 0), (IN, 1), (0, OUT), (1, OUT)]), nets_beside, with_both, LINE)
        self.told((["line", "pile"], [(IN, OUT), (IN, 0), (IN, 1), (0, OUT), (1, OUT)]), nets_beside, LINE, with_both)
        self.told(STRAIGHT, nets_beside, STRAIGHT, STRAIGHT)

    def test_nets_without_stations_or_ways(self):
        self.told(NOTHING, nets_beside, NOTHING, NOTHING)
        for net in SMALL + OF_TWO:
            self.told(net, nets_beside, net, NOTHING)
            self.told(net, nets_beside, NOTHING, net)
            self.told((net[0], sorted({*net[1], (IN, OUT)})), nets_beside, net, STRAIGHT)
            self.told((["line", *net[0]], beside((["line"], []), net)[1]), nets_beside, (["line"], []), net)

    def test_all_small_nets_by_definition(self):
        for one, other in itertools.product(SMALL + OF_TWO, repeat=2):
            self.exactly(nets_beside(one, other), beside(one, other))

    def test_a_net_beside_itself(self):
        for net in SMALL + OF_TWO:
            kept = copy.deepcopy(net)
            self.exactly(nets_beside(net, net), beside(net, net))
            self.exactly(net, kept)

    def test_more_than_six_stations_together(self):
        one, other = one_behind_the_other(["pile", "line"] * 3), side_by_side(["line"] * 6)
        self.told(beside(one, other), nets_beside, one, other)
        self.told(beside(other, one), nets_beside, other, one)
        both = nets_beside(nets_beside(one, other), one)
        self.assertEqual(len(both[0]), 18)
        self.assertEqual(net_text(nets_beside(one, LINE)), (
            "pile,line,pile,line,pile,line,line, in>0,in>6,0>1,1>2,2>3,3>4,4>5,5>out,6>out"
        ))

    def test_a_net_is_told(self):
        for one, other in itertools.product(OF_TWO, repeat=2):
            stations, ways = nets_beside(one, other)
            self.exactly(net_of(stations, ways), (stations, ways))

    def test_what_comes_out_of_either_comes_out(self):
        for one, other in itertools.product(SMALL[::3] + OF_TWO[::9], repeat=2):
            both = nets_beside(one, other)
            for row in [[0], [1, 0], [2, 1, 0], [1, 2, 0]]:
                if is_out(one, row) or is_out(other, row):
                    self.assertIs(is_out(both, row), True)


class Behind(Checks):

    def test_ordinary_nets(self):
        self.told((["pile", "line"], [(IN, 0), (0, 1), (1, OUT)]), nets_behind, PILE, LINE)
        self.told((["line", "pile"], [(IN, 0), (0, 1), (1, OUT)]), nets_behind, LINE, PILE)
        two = side_by_side(["pile", "line"])
        self.told((["pile", "line"] * 2, [
            (IN, 0), (IN, 1), (0, 2), (0, 3), (1, 2), (1, 3), (2, OUT), (3, OUT),
        ]), nets_behind, two, two)

    def test_ways_within_each_stay(self):
        one = (["pile", "line"], [(IN, 0), (0, 1), (1, OUT)])
        other = (["line", "pile", "line"], [(IN, 1), (0, 2), (1, 0), (2, OUT)])
        self.told(
            (["pile", "line", "line", "pile", "line"], [(IN, 0), (0, 1), (1, 3), (2, 4), (3, 2), (4, OUT)]),
            nets_behind, one, other,
        )

    def test_straight_ways(self):
        straight = (["pile"], [(IN, OUT), (IN, 0), (0, OUT)])
        self.told((["pile", "line"], [(IN, 0), (IN, 1), (0, 1), (1, OUT)]), nets_behind, straight, LINE)
        self.told((["line", "pile"], [(IN, 0), (0, OUT), (0, 1), (1, OUT)]), nets_behind, LINE, straight)
        self.told((["pile", "pile"], [
            (IN, OUT), (IN, 0), (IN, 1), (0, OUT), (0, 1), (1, OUT),
        ]), nets_behind, straight, straight)
        self.told(STRAIGHT, nets_behind, STRAIGHT, STRAIGHT)

    def test_nets_without_stations_or_ways(self):
        self.told(NOTHING, nets_behind, NOTHING, NOTHING)
        self.told(NOTHING, nets_behind, NOTHING, STRAIGHT)
        self.told(NOTHING, nets_behind, STRAIGHT, NOTHING)
        self.told((["pile"], [(IN, 0)]), nets_behind, PILE, NOTHING)
        self.told((["pile"], [(0, OUT)]), nets_behind, NOTHING, PILE)
        for net in SMALL + OF_TWO:
            self.told(net, nets_behind, net, STRAIGHT)
            self.told(net, nets_behind, STRAIGHT, net)

    def test_all_small_nets_by_definition(self):
        for one, other in itertools.product(SMALL + OF_TWO, repeat=2):
            self.exactly(nets_behind(one, other), behind(one, other))

    def test_a_net_behind_itself(self):
        for net in SMALL + OF_TWO:
            kept = copy.deepcopy(net)
            self.exactly(nets_behind(net, net), behind(net, net))
            self.exactly(net, kept)

    def test_more_than_six_stations_together(self):
        one, other = side_by_side(["pile", "line"] * 3), side_by_side(["line"] * 6)
        self.told(behind(one, other), nets_behind, one, other)
        self.assertEqual(len(nets_behind(one, other)[1]), 48)
        both = nets_behind(nets_behind(one, other), one)
        self.assertEqual((len(both[0]), len(both[1])), (18, 84))
        self.assertEqual(net_text(nets_behind(one_behind_the_other(["pile"] * 6), LINE)), (
            "pile,pile,pile,pile,pile,pile,line, in>0,0>1,1>2,2>3,3>4,4>5,5>6,6>out"
        ))

    def test_a_net_is_told(self):
        for one, other in itertools.product(OF_TWO, repeat=2):
            stations, ways = nets_behind(one, other)
            self.exactly(net_of(stations, ways), (stations, ways))

    def test_what_comes_out_of_one_goes_into_the_other(self):
        # A row comes out just where the one net brings it into some order that the other one brings out.
        for one, other in itertools.product(SMALL[::3] + OF_TWO[::9], repeat=2):
            both = nets_behind(one, other)
            for row in [[], [0], [1, 0], [1, 2, 0]]:
                orders = itertools.permutations(row)
                through = any(
                    is_out(one, [order.index(number) for number in row]) and is_out(other, list(order))
                    for order in orders
                )
                self.assertIs(is_out(both, row), through)


class DoingBeside(Checks):

    ONE = (["pile", "line"], [(IN, OUT), (IN, 0), (0, 1), (1, OUT)])
    OTHER = (["line", "pile", "pile"], [(IN, OUT), (IN, 1), (1, OUT), (1, 0), (0, OUT)])
    ROW = [20, 10]
    OF_ONE = [(IN, 0), (IN, OUT), (0, 1), (1, OUT)]
    OF_OTHER = [(IN, 1), (1, 0), (IN, OUT), (0, OUT)]

    def test_a_doing_of_the_one_stays(self):
        self.told(self.OF_ONE, doing_beside, self.ONE, self.OTHER, self.ROW, self.OF_ONE, True)
        self.told(self.OF_OTHER, doing_beside, self.OTHER, self.ONE, self.ROW, self.OF_OTHER, True)

    def test_a_doing_of_the_other_by_its_new_numbers(self):
        self.told(
            [(IN, 3), (3, 2), (IN, OUT), (2, OUT)],
            doing_beside, self.ONE, self.OTHER, self.ROW, self.OF_OTHER, False,
        )
        self.told(
            [(IN, 3), (IN, OUT), (3, 4), (4, OUT)],
            doing_beside, self.OTHER, self.ONE, self.ROW, self.OF_ONE, False,
        )

    def test_a_net_beside_itself(self):
        self.told(self.OF_ONE, doing_beside, self.ONE, self.ONE, self.ROW, self.OF_ONE, True)
        self.told(
            [(IN, 2), (IN, OUT), (2, 3), (3, OUT)], doing_beside, self.ONE, self.ONE, self.ROW, self.OF_ONE, False,
        )

    def test_rows_of_no_numbers_and_nets_without_stations(self):
        for one, other in [(NOTHING, NOTHING), (self.ONE, STRAIGHT), (STRAIGHT, self.OTHER)]:
            for first in [True, False]:
                self.told([], doing_beside, one, other, [], [], first)
        self.told([(IN, OUT)] * 2, doing_beside, STRAIGHT, self.ONE, [-TOP, TOP], [(IN, OUT)] * 2, True)
        self.told([(IN, OUT)] * 2, doing_beside, self.ONE, STRAIGHT, [-TOP, TOP], [(IN, OUT)] * 2, False)
        self.told(self.OF_ONE, doing_beside, STRAIGHT, self.ONE, self.ROW, self.OF_ONE, False)

    def test_it_brings_the_row_out_of_both(self):
        for one, other in itertools.product(SMALL + OF_TWO[::3], repeat=2):
            for row in [[0, 1], [1, 0]]:
                for first in [True, False]:
                    self.check(one, other, row, first)

    def check(self, one, other, row, first):
        kind, doing = way_out(one if first else other, row)
        if kind == "doing":
            told = doing_beside(one, other, row, doing, first)
            self.assertIs(brings_out(nets_beside(one, other), row, told), True)
            by = 0 if first else len(one[0])
            self.exactly(told, [tuple(end if end < 0 else end + by for end in move) for move in doing])

    def test_more_than_six_stations_together(self):
        net = one_behind_the_other(["line"] * 6)
        doing = [(IN, 0), (0, 1), (1, 2), (2, 3), (3, 4), (4, 5), (5, OUT)]
        further = [(IN, 6), (6, 7), (7, 8), (8, 9), (9, 10), (10, 11), (11, OUT)]
        self.told(doing * 2, doing_beside, net, net, [3, 4], doing * 2, True)
        self.told(further * 2, doing_beside, net, net, [3, 4], doing * 2, False)

    def test_doings_that_do_not_bring_the_row_out(self):
        for doing, first in [(self.OF_ONE, True), (self.OF_OTHER, False)]:
            for wrong in [
                [], doing[:-1], doing[1:], doing + [(IN, OUT)], doing[::-1], [(7, 7)], [(TOP, -TOP)] + doing,
                doing + [(0, 0)], [(IN, OUT), (IN, OUT)],
            ]:
                self.refused(NoDoing, doing_beside, self.ONE, self.OTHER, self.ROW, wrong, first)
        self.refused(NoDoing, doing_beside, self.ONE, self.OTHER, [], [(IN, OUT)], True)
        self.refused(NoDoing, doing_beside, NOTHING, NOTHING, [5], [], False)

    def test_a_doing_of_the_wrong_net(self):
        self.refused(NoDoing, doing_beside, self.ONE, self.OTHER, self.ROW, self.OF_ONE, False)
        self.refused(NoDoing, doing_beside, self.ONE, self.OTHER, self.ROW, self.OF_OTHER, True)
        # Nor is a doing for both one of the other's, by the new numbers.
        told = doing_beside(self.ONE, self.OTHER, self.ROW, self.OF_OTHER, False)
        self.refused(NoDoing, doing_beside, self.ONE, self.OTHER, self.ROW, told, False)
        self.refused(NoDoing, doing_beside, self.ONE, self.OTHER, self.ROW, told, True)

    def test_two_alike_go_ahead_of_no_doing(self):
        for row in ALIKE:
            for doing in [[], self.OF_ONE, self.OF_OTHER, [(7, 7)]]:
                for first in [True, False]:
                    self.refused(NoRow, doing_beside, self.ONE, self.OTHER, row, doing, first)


if __name__ == "__main__":
    unittest.main()
