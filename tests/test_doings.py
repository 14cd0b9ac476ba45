"""Points 9 to 13, and points 2 and 3 of these: standings, moves, and doings that bring a row out."""

import itertools
import random
import unittest

from pilenets.doings import brings_out, first_standing, moves_in, standing_behind
from pilenets.errors import NoMove, NoRow
from tests.by_definition import (
    IN, OUT, TOP, Checks, done, found_by_lists, last_of, nets_of_stations, one_behind_the_other,
    rows_of, rows_up_to, side_by_side, walked,
)

# A pile, from it a line, and past both straight out; a third station stands alone.
NET = (["pile", "line", "pile"], [(IN, OUT), (IN, 0), (0, OUT), (0, 1), (1, OUT)])
ROW = [30, -10, 20]
ALIKE = [[1, 1], [0, 2, 0], [-TOP, 5, -TOP], [3, 3, 3]]


def odd_standings(many, length):
    """Standings of so many stations that no doing need come to."""
    chance = random.Random(5)
    for _ in range(40):
        held = tuple(
            tuple(chance.choice([0, 1, 2, 7, -1, -2, TOP]) for _ in range(chance.randrange(4)))
            for _ in range(many)
        )
        yield (chance.randrange(length + 1), held, chance.choice([0, 1, 2, 7, -1, -2, TOP, -TOP]))


class FirstStanding(Checks):

    def test_nothing_went_in_is_held_or_came_out(self):
        self.told((0, ((), (), ()), 0), first_standing, NET)
        self.told((0, ((),), 0), first_standing, (["line"], [(IN, 0)]))

    def test_a_net_without_stations(self):
        self.told((0, (), 0), first_standing, ([], []))
        self.told((0, (), 0), first_standing, ([], [(IN, OUT)]))

    def test_as_many_tuples_as_stations(self):
        for many in range(7):
            self.told((0, ((),) * many, 0), first_standing, side_by_side(["line"] * many))


class StandingBehind(Checks):

    def behind(self, expected, standing, move, net=NET, row=ROW):
        self.told(expected, standing_behind, net, row, standing, move)

    def barred(self, standing, move, net=NET, row=ROW):
        self.refused(NoMove, standing_behind, net, row, standing, move)

    def test_from_in_comes_the_next_number_of_the_row_put_to_its_order(self):
        self.behind((1, ((2,), (), ()), 0), (0, ((), (), ()), 0), (IN, 0))
        self.behind((2, ((2, 0), (), ()), 0), (1, ((2,), (), ()), 0), (IN, 0))
        self.behind((3, ((2, 0, 1), (), ()), 0), (2, ((2, 0), (), ()), 0), (IN, 0))

    def test_the_place_is_told_by_how_many_went_in(self):
        self.behind((2, ((0,), (), ()), 0), (1, ((), (), ()), 0), (IN, 0))
        self.behind((3, ((1,), (5,), ()), 9), (2, ((), (5,), ()), 9), (IN, 0))

    def test_from_in_where_no_number_is_left(self):
        self.barred((3, ((2, 0, 1), (), ()), 0), (IN, 0))
        self.barred((3, ((), (), ()), 3), (IN, OUT))
        self.barred((0, ((), (), ()), 0), (IN, 0), row=[])

    def test_from_a_pile_the_last_one_that_came(self):
        self.behind((3, ((2, 0), (1,), ()), 0), (3, ((2, 0, 1), (), ()), 0), (0, 1))
        self.behind((3, ((2,), (1, 0), ()), 0), (3, ((2, 0), (1,), ()), 0), (0, 1))
        self.behind((3, ((2, 0), (), ()), 2), (3, ((2, 0, 1), (), ()), 1), (0, OUT))

    def test_from_a_line_the_first_one_that_came(self):
        self.behind((3, ((), (1, 2), ()), 1), (3, ((), (0, 1, 2), ()), 0), (1, OUT))
        self.behind((3, ((), (2,), ()), 2), (3, ((), (1, 2), ()), 1), (1, OUT))
        net = (["line", "line"], [(IN, 0), (0, 1), (1, OUT)])
        self.behind((3, ((0, 1), (2,)), 0), (3, ((2, 0, 1), ()), 0), (0, 1), net)
        self.behind((3, ((1,), (2, 0)), 0), (3, ((0, 1), (2,)), 0), (0, 1), net)

    def test_out_of_a_line_only_what_came_first(self):
        self.barred((3, ((), (1, 2, 0), ()), 0), (1, OUT))
        self.barred((3, ((), (2, 0, 1), ()), 1), (1, OUT))

    def test_out_of_a_pile_only_what_came_last(self):
        self.barred((3, ((0, 2, 1), (), ()), 0), (0, OUT))
        self.barred((3, ((1, 0, 2), (), ()), 0), (0, OUT))

    def test_out_only_in_order(self):
        for out in [-1, 1, 2, 3, TOP]:
            self.barred((2, ((2, 0), (), ()), out), (0, OUT))
        self.behind((2, ((2,), (), ()), 1), (2, ((2, 0), (), ()), 0), (0, OUT))

    def test_straight_out(self):
        self.barred((0, ((), (), ()), 0), (IN, OUT))
        self.behind((2, ((2,), (), ()), 1), (1, ((2,), (), ()), 0), (IN, OUT))
        self.behind((3, ((2,), (), ()), 2), (2, ((2,), (), ()), 1), (IN, OUT))
        self.behind((1, (), 1), (0, (), 0), (IN, OUT), ([], [(IN, OUT)]), [TOP])

    def test_from_an_empty_station(self):
        self.barred((1, ((), (2,), ()), 0), (0, 1))
        self.barred((1, ((), (2,), ()), 0), (0, OUT))
        self.barred((1, ((2,), (), ()), 0), (1, OUT))

    def test_ways_that_are_none_of_the_nets(self):
        full = (1, ((0,), (0,), (0,)), 0)
        for a, b in itertools.product(range(-5, 6), repeat=2):
            if (a, b) not in NET[1]:
                self.barred(full, (a, b))
        for move in [(TOP, OUT), (IN, TOP), (-TOP, 0), (0, -TOP), (TOP, TOP), (10 ** 59, 10 ** 59)]:
            self.barred(full, move)

    def test_without_ways_and_without_stations_no_move_is_one(self):
        for move in [(IN, OUT), (IN, 0), (0, OUT), (0, 0)]:
            self.barred((0, (), 0), move, ([], []), [0])
            self.barred((0, ((0,), (0,)), 0), move, (["pile", "line"], []), [0])

    def test_stations_that_no_way_leads_to_or_from_keep_what_they_hold(self):
        self.behind((1, ((2,), (), (4, 4)), 0), (0, ((), (), (4, 4)), 0), (IN, 0))

    def test_standings_that_no_doing_comes_to(self):
        self.behind((0, ((), (TOP,), ()), -TOP), (0, ((TOP,), (), ()), -TOP), (0, 1))
        self.behind((0, ((7,), (), ()), TOP + 1), (0, ((7, TOP), (), ()), TOP), (0, OUT))
        self.behind((0, ((), (), ()), -4), (0, ((-5,), (), ()), -5), (0, OUT))
        self.behind((3, ((), (1, 1), ()), 2), (3, ((), (1, 1, 1), ()), 1), (1, OUT))
        self.behind((1, ((2, 2, 2), (), ()), 9), (0, ((2, 2), (), ()), 9), (IN, 0))
        self.barred((0, ((), (TOP,), ()), TOP - 1), (1, OUT))

    def test_rows_of_unlike_numbers_that_are_far_apart(self):
        for row in [[TOP, -TOP, 0], [10 ** 59, 5, 6], [-1, -10 ** 59, -2]]:
            self.behind((1, ((2,), (), ()), 0), (0, ((), (), ()), 0), (IN, 0), row=row)
            self.behind((2, ((2, 0), (), ()), 0), (1, ((2,), (), ()), 0), (IN, 0), row=row)

    def test_two_alike_go_ahead_of_the_move(self):
        for row in ALIKE:
            for move in [(IN, 0), (0, 1), (0, 2), (TOP, -TOP)]:
                self.refused(NoRow, standing_behind, NET, row, (0, ((), (), ()), 0), move)

    def test_every_net_of_two_stations_in_odd_standings(self):
        row = [5, 9, 1]
        moves = list(itertools.product([IN, 0, 1, 2], [OUT, 0, 1, 2]))
        for net in nets_of_stations(2):
            for standing in itertools.islice(odd_standings(2, 3), 8):
                for move in moves:
                    step = done(net, row, standing, move) if move in net[1] else None
                    if step is None:
                        self.refused(NoMove, standing_behind, net, row, standing, move)
                    else:
                        self.exactly(standing_behind(net, row, standing, move), step[1])


class MovesIn(Checks):

    def test_ordinary_standings(self):
        self.told([(IN, 0)], moves_in, NET, ROW, (0, ((), (), ()), 0))
        self.told([(IN, OUT), (IN, 0), (0, 1)], moves_in, NET, ROW, (1, ((2,), (), ()), 0))
        self.told([(IN, 0), (0, OUT), (0, 1)], moves_in, NET, ROW, (2, ((2, 0), (), ()), 0))
        self.told([(0, 1), (1, OUT)], moves_in, NET, ROW, (3, ((2, 1), (0,), ()), 0))

    def test_none(self):
        self.told([], moves_in, NET, ROW, (3, ((), (), ()), 3))
        self.told([], moves_in, NET, ROW, (3, ((), (2, 0, 1), ()), 0))
        self.told([], moves_in, NET, [], (0, ((), (), ()), 0))
        self.told([], moves_in, (["pile"], []), [4], (0, ((0,),), 0))
        self.told([], moves_in, ([], []), [4], (0, (), 0))

    def test_straight_out_without_stations(self):
        net = ([], [(IN, OUT)])
        self.told([(IN, OUT)], moves_in, net, [1, 2], (0, (), 0))
        self.told([(IN, OUT)], moves_in, net, [1, 2], (1, (), 1))
        self.told([], moves_in, net, [2, 1], (0, (), 0))

    def test_sorted(self):
        net = side_by_side(["pile", "line"] * 3)
        full = (0, ((0,),) * 6, 0)
        expected = [(IN, s) for s in range(6)] + [(s, OUT) for s in range(6)]
        self.told(expected, moves_in, net, [1, 0], full)

    def test_two_alike(self):
        for row in ALIKE:
            self.refused(NoRow, moves_in, NET, row, (0, ((), (), ()), 0))
            self.refused(NoRow, moves_in, ([], []), row, (0, (), 0))

    def test_every_net_of_at_most_two_stations_in_odd_standings(self):
        row = [TOP, 3, -TOP]
        for many in range(3):
            for net in nets_of_stations(many):
                for standing in odd_standings(many, 3):
                    expected = [move for move in net[1] if done(net, row, standing, move) is not None]
                    self.exactly(moves_in(net, row, standing), expected)


class BringsOut(Checks):

    ROUND = [(IN, 0), (IN, OUT), (IN, OUT), (0, OUT)]

    def test_ordinary_doings(self):
        self.told(True, brings_out, NET, ROW, self.ROUND)
        self.told(True, brings_out, NET, ROW, [
            (IN, 0), (0, 1), (IN, OUT), (IN, 0), (0, OUT), (1, OUT),
        ])

    def test_a_doing_that_stops_ahead_of_the_last_standing(self):
        for many in range(4):
            self.told(False, brings_out, NET, ROW, self.ROUND[:many])

    def test_a_doing_that_goes_on_behind_the_last_standing(self):
        for move in NET[1] + [(7, 7)]:
            self.told(False, brings_out, NET, ROW, self.ROUND + [move])

    def test_moves_that_may_not_be_done(self):
        for at in range(5):
            for move in [(1, OUT), (IN, 2), (2, 0), (TOP, -TOP), (OUT, IN), (-3, 0), (0, 99)]:
                self.told(False, brings_out, NET, ROW, self.ROUND[:at] + [move] + self.ROUND[at:])

    def test_a_move_left_out(self):
        for at in range(4):
            self.told(False, brings_out, NET, ROW, self.ROUND[:at] + self.ROUND[at + 1:])

    def test_a_doing_without_moves(self):
        self.told(True, brings_out, NET, [], [])
        self.told(True, brings_out, ([], []), [], [])
        self.told(False, brings_out, NET, [5], [])
        self.told(False, brings_out, ([], []), [5], [])

    def test_of_no_numbers_no_move_may_be_done(self):
        for move in NET[1] + [(5, 6)]:
            self.told(False, brings_out, NET, [], [move])

    def test_ways_that_are_none_of_the_nets_bring_nothing_out(self):
        self.told(False, brings_out, ([], []), [0], [(IN, OUT)])
        self.told(True, brings_out, ([], [(IN, OUT)]), [0], [(IN, OUT)])
        self.told(False, brings_out, (["pile"], [(IN, 0)]), [0], [(IN, 0), (0, OUT)])
        self.told(False, brings_out, (["pile"], [(0, OUT)]), [0], [(IN, 0), (0, OUT)])

    def test_piles_and_lines_are_told_apart(self):
        doing = [(IN, 0), (IN, 0), (0, OUT), (0, OUT)]
        for word, row in [("pile", [9, 3]), ("line", [3, 9])]:
            net = one_behind_the_other([word])
            self.told(True, brings_out, net, row, doing)
            self.told(False, brings_out, net, row[::-1], doing)

    def test_twelve_far_numbers_turned_about_by_a_pile(self):
        row = [TOP - 10 ** 58 * k for k in range(12)]
        net = one_behind_the_other(["pile"])
        self.told(True, brings_out, net, row, [(IN, 0)] * 12 + [(0, OUT)] * 12)
        self.told(False, brings_out, net, row[::-1], [(IN, 0)] * 12 + [(0, OUT)] * 12)
        self.told(True, brings_out, net, row[::-1], [(IN, 0), (0, OUT)] * 12)

    def test_two_alike(self):
        for row in ALIKE:
            for doing in [[], self.ROUND, [(TOP, TOP)]]:
                self.refused(NoRow, brings_out, NET, row, doing)

    def test_every_short_list_of_moves(self):
        net = (["pile", "line"], [(IN, 0), (0, OUT), (0, 1), (1, OUT)])
        moves = net[1] + [(IN, OUT), (1, 0)]
        for many in range(6):
            for doing in itertools.product(moves, repeat=many):
                for row in [[0], [1, 0]]:
                    walk = walked(net, row, doing)
                    expected = walk is not None and walk[1] == last_of(net, row)
                    self.assertIs(brings_out(net, row, list(doing)), expected)

    def test_lists_of_moves_that_may_be_done_in_every_small_net(self):
        for net in nets_of_stations(2):
            for row in rows_up_to(2) + rows_of(3)[3:4]:
                last = last_of(net, row)
                for standing, (doing, _) in found_by_lists(net, row).items():
                    self.assertIs(brings_out(net, row, doing), standing == last)


if __name__ == "__main__":
    unittest.main()
