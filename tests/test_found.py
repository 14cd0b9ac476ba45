"""Points 14 to 16, and points 2 and 3 of these: shortest doings, how many there are, and papers of never."""

import unittest

from pilenets.errors import NoRow, TooMany
from pilenets.found import comes_out, how_many_doings, way_out
from tests.by_definition import (
    IN, LAST_IS_2000TH, LAST_IS_2000TH_OF_MORE, LAST_IS_2002ND, LAST_IS_2002ND_OF_MORE, NEVER_2000,
    NEVER_2000_OF_LINES, NEVER_2001, NEVER_2001_OF_THREE, OUT, TOP, Checks, first_of, found_by_lists,
    last_of, nets_of_stations, one_behind_the_other, reached_from, rows_of, rows_up_to, side_by_side,
    walked,
)

ASKED = [way_out, how_many_doings, comes_out]
PILE = one_behind_the_other(["pile"])
LINE = one_behind_the_other(["line"])


class ByDefinition(Checks):

    def compare(self, net, row):
        """All that is told of a net and a row is what all lists of moves, written down, tell."""
        found = found_by_lists(net, row)
        last = last_of(net, row)
        if last in found:
            doing, many = found[last]
            expected = [("doing", doing), many, True]
        else:
            expected = [("never", list(found)), 0, False]
        for ask, answer in zip(ASKED, expected):
            self.exactly(ask(net, row), answer)

    def test_every_net_of_no_stations_and_of_one(self):
        for many, most in [(0, 4), (1, 4)]:
            for net in nets_of_stations(many):
                for row in rows_up_to(most):
                    self.compare(net, row)

    def test_every_net_of_two_stations(self):
        for net in nets_of_stations(2):
            for row in rows_up_to(2) + [[0, 2, 1], [2, 0, 1], [2, 1, 0], [1, 2, 0]]:
                self.compare(net, row)

    def test_nets_of_more_stations(self):
        between = [(IN, 0), (IN, 2), (0, 1), (0, 2), (1, OUT), (1, 2), (2, OUT)]
        for words in [["line", "pile", "line"], ["pile", "line", "pile"], ["line"] * 3]:
            for row in rows_up_to(2) + [[1, 2, 0]]:
                self.compare((words, between), row)

    def test_ways_to_stations_of_lesser_numbers(self):
        net = (["pile", "line", "pile"], [(IN, 1), (IN, 2), (0, OUT), (1, OUT), (1, 0), (2, 0), (2, 1)])
        for row in rows_up_to(2) + [[2, 1, 0]]:
            self.compare(net, row)

    def test_rows_that_are_not_put_to_their_order(self):
        for row in [[TOP, -TOP], [-7, 4, -10 ** 59], [5], [2, 3, 1]]:
            self.compare(PILE, row)
            self.compare(LINE, row)


class WayOut(Checks):

    def test_the_fewest_moves(self):
        self.told(("doing", [(IN, 0), (0, OUT)] * 3), way_out, PILE, [5, 6, 7])
        self.told(("doing", [(IN, 0)] * 3 + [(0, OUT)] * 3), way_out, PILE, [7, 6, 5])
        net = (["pile", "line"], [(IN, OUT), (IN, 0), (0, OUT), (0, 1), (1, OUT)])
        self.told(("doing", [(IN, OUT)] * 4), way_out, net, [0, 1, 2, 3])
        self.told(("doing", [(IN, 0), (IN, OUT), (0, OUT)]), way_out, net, [1, 0])

    def test_the_first_of_several_as_lists(self):
        net = side_by_side(["line", "pile", "line"])
        self.told(("doing", [(IN, 0), (0, OUT)]), way_out, net, [8])
        self.told(("doing", [(IN, 0), (IN, 0), (0, OUT), (0, OUT)]), way_out, net, [8, 9])
        self.told(("doing", [(IN, 0), (IN, 1), (1, OUT), (0, OUT)]), way_out, net, [9, 8])

    def test_a_row_of_no_numbers(self):
        for net in [([], []), ([], [(IN, OUT)]), PILE, (["line"] * 6, [])]:
            self.told(("doing", []), way_out, net, [])

    def test_a_net_without_stations(self):
        straight = ([], [(IN, OUT)])
        self.told(("doing", [(IN, OUT)] * 2), way_out, straight, [-3, TOP])
        self.told(("doing", [(IN, OUT)] * 12), way_out, straight, list(range(12)))
        self.told(("never", [(0, (), 0)]), way_out, straight, [4, 3])
        self.told(("never", [(0, (), 0), (1, (), 1)]), way_out, straight, [1, 3, 2])
        self.told(("never", [(0, (), 0)]), way_out, ([], []), [4])

    def test_stations_that_no_way_leads_to_or_from(self):
        self.told(("never", [(0, ((), ()), 0)]), way_out, (["pile", "line"], []), [1])
        net = (["pile", "line"], [(IN, 0)])
        self.told(("never", [(0, ((), ()), 0), (1, ((0,), ()), 0)]), way_out, net, [1])
        net = (["pile", "line"], [(0, 1), (1, OUT)])
        self.told(("never", [(0, ((), ()), 0)]), way_out, net, [1])
        net = (["pile", "line", "pile"], [(IN, 1), (1, OUT)])
        self.told(("doing", [(IN, 1), (1, OUT)]), way_out, net, [1])

    def test_a_paper_in_the_order_of_finding(self):
        self.told(
            ("never", [
                (0, ((),), 0), (1, ((1,),), 0), (2, ((1, 0),), 0),
            ]), way_out, LINE, [9, 5],
        )
        net = (["pile", "line"], [(IN, 1), (1, 0)])
        self.told(
            ("never", [
                (0, ((), ()), 0), (1, ((), (0,)), 0), (2, ((), (0, 1)), 0), (1, ((0,), ()), 0),
                (2, ((0,), (1,)), 0), (2, ((0, 1), ()), 0),
            ]), way_out, net, [2, 3],
        )

    def test_twelve_numbers_by_one_station(self):
        self.told(("doing", [(IN, 0)] * 12 + [(0, OUT)] * 12), way_out, PILE, list(range(12, 0, -1)))
        self.told(("doing", [(IN, 0), (0, OUT)] * 12), way_out, PILE, [k * 10 ** 57 for k in range(12)])
        # To go in is ahead of to go out, as lists: so all go in first where they may.
        self.told(("doing", [(IN, 0)] * 12 + [(0, OUT)] * 12), way_out, LINE, list(range(-12, 0)))

    def test_ten_numbers_by_six_stations(self):
        net = one_behind_the_other(["line"] * 6)
        doing = [(IN, 0)] + [(s, s + 1) for s in range(5)] + [(5, OUT)]
        self.told(("doing", doing), way_out, net, [77])
        self.refused(TooMany, way_out, net, list(range(10)))
        net = ([*net[0]], [(IN, OUT), *net[1]])
        self.told(("doing", [(IN, OUT)] * 2), way_out, net, [1, 2])


class HowManyDoings(Checks):

    def test_several(self):
        for many in range(7):
            net = side_by_side(["line", "pile"] * 3)
            net = (net[0][:many], [way for way in net[1] if max(way) < many])
            self.told(many, how_many_doings, net, [5])
        # Four choices of a line for each of the two, and each choice in two orders of moves.
        self.told(4 * 2, how_many_doings, side_by_side(["line", "line"]), [1, 2])
        self.told(2, how_many_doings, side_by_side(["line", "line"]), [2, 1])

    def test_longer_ones_do_not_count(self):
        net = (["line", "line"], [(IN, OUT), (IN, 0), (0, OUT), (0, 1), (1, OUT)])
        self.told(1, how_many_doings, net, [1, 2, 3])
        self.told(1, how_many_doings, (net[0], net[1][1:]), [1])

    def test_none(self):
        self.told(0, how_many_doings, LINE, [2, 1])
        self.told(0, how_many_doings, PILE, [5, 6, 4])
        self.told(0, how_many_doings, ([], []), [5])
        self.told(0, how_many_doings, (["line"], []), [5])

    def test_of_no_numbers_there_is_the_doing_without_moves(self):
        for net in [([], []), PILE, (["line"] * 6, [])]:
            self.told(1, how_many_doings, net, [])

    def test_rising_rows_by_a_line_and_by_a_pile(self):
        # A line holds back as it likes: as many doings as there are sound brackets.
        for many, brackets in enumerate([1, 1, 2, 5, 14, 42, 132]):
            self.told(brackets, how_many_doings, LINE, list(range(many)))
            self.told(1, how_many_doings, PILE, list(range(many)))


class ComesOut(Checks):

    def test_one_pile_keeps_in_what_holds_1_2_0(self):
        for row in rows_of(3):
            self.told(row != [1, 2, 0], comes_out, PILE, row)

    def test_one_line_lets_out_what_rises(self):
        for row in rows_of(3):
            self.told(row == [0, 1, 2], comes_out, LINE, row)

    def test_far_numbers(self):
        self.told(False, comes_out, PILE, [0, TOP, -TOP])
        self.told(True, comes_out, PILE, [TOP, 0, -TOP])

    def test_no_numbers(self):
        self.told(True, comes_out, ([], []), [])
        self.told(True, comes_out, (["line"], []), [])


class TooManyStandings(Checks):

    def test_just_two_thousand_none_of_them_the_last_one(self):
        for net, row in [NEVER_2000, NEVER_2000_OF_LINES]:
            paper = reached_from(net, row, [first_of(net)])
            self.assertEqual(len(paper), 2000)
            self.assertNotIn(last_of(net, row), paper)
            self.exactly(way_out(net, row), ("never", paper))
            self.told(0, how_many_doings, net, row)
            self.told(False, comes_out, net, row)

    def test_one_more(self):
        for net, row in [NEVER_2001, NEVER_2001_OF_THREE]:
            paper = reached_from(net, row, [first_of(net)])
            self.assertEqual(len(paper), 2001)
            self.assertNotIn(last_of(net, row), paper)
            for ask in ASKED:
                self.refused(TooMany, ask, net, row)

    def test_the_last_one_found_behind_just_one_fewer_than_two_thousand(self):
        for net, row in [LAST_IS_2000TH, LAST_IS_2000TH_OF_MORE]:
            all_of_them = reached_from(net, row, [first_of(net)])
            self.assertGreater(len(all_of_them), 2000)
            self.assertEqual(all_of_them.index(last_of(net, row)), 1999)
            kind, doing = way_out(net, row)
            self.assertEqual(kind, "doing")
            self.assertEqual(walked(net, row, doing)[1], last_of(net, row))
            self.assertGreaterEqual(how_many_doings(net, row), 1)
            self.told(True, comes_out, net, row)

    def test_the_last_one_found_behind_one_more_than_two_thousand(self):
        for net, row in [LAST_IS_2002ND, LAST_IS_2002ND_OF_MORE]:
            all_of_them = reached_from(net, row, [first_of(net)])
            self.assertEqual(all_of_them.index(last_of(net, row)), 2001)
            for ask in ASKED:
                self.refused(TooMany, ask, net, row)

    def test_rows_of_far_numbers(self):
        for ask in ASKED:
            self.refused(TooMany, ask, NEVER_2001[0], [number * 10 ** 58 - TOP for number in NEVER_2001[1]])
        self.told(False, comes_out, NEVER_2000[0], [number * 10 ** 58 - TOP for number in NEVER_2000[1]])

    def test_longer_rows_are_refused_where_too_much_is_found(self):
        net = side_by_side(["pile", "line"])
        for ask in ASKED:
            self.refused(TooMany, ask, net, list(range(300, 0, -1)))


class NoRows(Checks):

    def test_two_alike(self):
        for ask in ASKED:
            for net in [PILE, ([], []), ([], [(IN, OUT)])]:
                for row in [[1, 1], [2, 0, 2], [TOP, 5, TOP]]:
                    self.refused(NoRow, ask, net, row)

    def test_ahead_of_too_many(self):
        for ask in ASKED:
            net, row = NEVER_2001
            self.refused(NoRow, ask, net, row + row[:1])
            self.refused(NoRow, ask, side_by_side(["pile"] * 6), [3] + list(range(10)))


class Own(Checks):

    def test_nothing_told_hangs_on_what_was_asked_ahead(self):
        net = one_behind_the_other(["pile"])
        row = [1, 2, 0]
        kind, paper = way_out(net, row)
        self.assertEqual(kind, "never")
        kept = list(paper)
        row[0], row[1] = row[1], row[0]
        self.assertEqual(way_out(net, row)[0], "doing")
        row[0], row[1] = row[1], row[0]
        net[0][0] = "line"
        self.assertEqual(len(way_out(net, row)[1]), 4)
        net[0][0] = "pile"
        net[1].insert(0, (IN, OUT))
        self.assertEqual(len(way_out(net, row)[1]), len(kept))
        del net[1][0]
        self.assertEqual(way_out(net, row), ("never", kept))


if __name__ == "__main__":
    unittest.main()
