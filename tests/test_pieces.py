"""Points 19 to 22, and points 2 and 3 of these: pieces, bad pieces, least bad rows, doings kept to places."""

import functools
import itertools
import unittest

from pilenets.doings import brings_out
from pilenets.errors import NoDoing, NoPlace, NoRow, TooMany
from pilenets.found import way_out
from pilenets.pieces import bad_piece, doing_kept, holds_piece, least_bad, piece_at
from tests.by_definition import (
    IN, LAST_IS_2000TH_OF_MORE, LAST_IS_2002ND, NEVER_2000_OF_LINES, NEVER_2001, OUT, TOP, Checks,
    first_of, is_out, last_of, nets_of_stations, one_behind_the_other, ordered, rows_of, rows_up_to,
    side_by_side, subsets, walked,
)

PILE = one_behind_the_other(["pile"])
LINE = one_behind_the_other(["line"])
STRAIGHT = ([], [(IN, OUT)])
ALIKE = [[1, 1], [2, 0, 2], [TOP, 5, TOP], [3, 3, 3, 3]]
# Of a row of four numbers.
NO_PLACES = [
    [1, 0], [0, 2, 1], [3, 2, 1, 0], [0, 0], [2, 2], [0, 1, 1], [0, 1, 1, 2], [-1], [-1, 0], [0, -1], [-4], [-TOP],
    [4], [0, 4], [3, 4], [0, 1, 2, 3, 4], [5], [TOP], [0, TOP], [2, 0], [-2, -1],
]


def all_places(row):
    """All places of a row's pieces, in the order of lists."""
    return sorted(subsets(range(len(row))))


def at(row, places):
    return ordered([row[place] for place in places])


class PieceAt(Checks):

    def test_ordinary_pieces(self):
        self.told([2, 0, 1], piece_at, [50, 10, 30, 20], [0, 1, 2])
        self.told([0, 1], piece_at, [50, 10, 30, 20], [1, 3])
        self.told([1, 0], piece_at, [50, 10, 30, 20], [2, 3])
        self.told([3, 0, 2, 1], piece_at, [50, 10, 30, 20], [0, 1, 2, 3])

    def test_no_places(self):
        self.told([], piece_at, [50, 10], [])
        self.told([], piece_at, [], [])

    def test_one_place(self):
        for place in range(4):
            self.told([0], piece_at, [50, -10, TOP, 20], [place])

    def test_far_numbers(self):
        self.told([1, 2, 0], piece_at, [TOP - 1, 7, TOP, -TOP], [0, 2, 3])

    def test_all_places_of_a_row(self):
        row = [4, -9, TOP, 0, 12]
        for places in all_places(row):
            self.told(at(row, places), piece_at, row, places)

    def test_twelve_numbers(self):
        row = [k * 7 % 12 * 10 ** 57 for k in range(12)]
        for places in [[0, 11], [1, 2, 3, 5, 8], list(range(12)), list(range(1, 12)), [11]]:
            self.told(at(row, places), piece_at, row, places)

    def test_lists_that_are_none_such(self):
        for places in NO_PLACES:
            self.refused(NoPlace, piece_at, [5, 1, 3, 2], places)

    def test_a_row_of_no_numbers_has_no_place(self):
        for places in [[0], [-1], [1], [0, 1]]:
            self.refused(NoPlace, piece_at, [], places)

    def test_every_short_list_of_small_numbers(self):
        row = [7, 3]
        for many in range(4):
            for numbers in itertools.product(range(-3, 4), repeat=many):
                places = list(numbers)
                if places in [[], [0], [1], [0, 1]]:
                    self.told(at(row, places), piece_at, row, places)
                else:
                    self.refused(NoPlace, piece_at, row, places)

    def test_two_alike_go_ahead_of_the_places(self):
        for row in ALIKE:
            for places in [[], [0], [0, 1]] + NO_PLACES:
                self.refused(NoRow, piece_at, row, places)


class HoldsPiece(Checks):

    def test_ordinary_rows(self):
        self.told([0, 1, 3], holds_piece, [20, 30, 40, 10], [5, 9, 1])
        self.told([1, 3], holds_piece, [10, 50, 60, 20], [2, 1])
        self.told(None, holds_piece, [1, 2, 3, 4], [2, 1])
        self.told(None, holds_piece, [40, 30, 20, 10], [5, 9])

    def test_the_first_places_as_lists(self):
        self.told([0, 1], holds_piece, [1, 2, 3], [0, 1])
        self.told([0, 3], holds_piece, [3, 4, 5, 1], [1, 0])
        self.told([1, 2], holds_piece, [0, 3, 1, 2], [1, 0])
        self.told([0, 1, 2, 3], holds_piece, [0, 1, 2, 3, 4], [6, 7, 8, 9])

    def test_the_row_of_none_which_every_row_holds(self):
        for row in [[], [5], [TOP, -TOP, 0]]:
            self.told([], holds_piece, row, [])

    def test_one_number_and_none(self):
        self.told([0], holds_piece, [5, 4], [-TOP])
        self.told(None, holds_piece, [], [5])

    def test_a_longer_row_is_held_by_none(self):
        self.told(None, holds_piece, [1, 2], [1, 2, 3])
        self.told(None, holds_piece, [], list(range(12)))

    def test_a_row_holds_itself_alone_at_all_places(self):
        for row in rows_of(4):
            self.told([0, 1, 2, 3], holds_piece, row, [number * TOP for number in row])

    def test_twelve_numbers(self):
        row = [k * 5 % 12 for k in range(12)]
        self.told(list(range(12)), holds_piece, row, row)
        for other in rows_of(3):
            expected = next(list(p) for p in itertools.combinations(range(12), 3) if at(row, p) == other)
            self.told(expected, holds_piece, row, other)
        self.told([0, 1, 2, 3, 6, 9], holds_piece, [0, 9, 8, 7, 11, 6, 3, 1, 2, 4, 5, 10], [0, 5, 4, 3, 1, 2])
        self.told(None, holds_piece, list(range(11, -1, -1)), [5, 4, 3, 2, 0, 1])

    def test_every_pair_of_rows_up_to_four_and_five(self):
        for row in rows_up_to(4) + rows_of(5)[::9]:
            first = {}
            for places in all_places(row):
                first.setdefault(tuple(at(row, places)), places)
            for other in rows_up_to(4):
                self.exactly(holds_piece(row, other), first.get(tuple(other)))

    def test_two_alike_in_either_row(self):
        for row in ALIKE:
            self.refused(NoRow, holds_piece, row, [])
            self.refused(NoRow, holds_piece, row, [1, 0])
            self.refused(NoRow, holds_piece, [], row)
            self.refused(NoRow, holds_piece, [5, 2], row)
            self.refused(NoRow, holds_piece, row, row)


def never_out(net, row):
    """Asks `is_out` for each row put to its order, and each only once."""
    sought = functools.cache(lambda piece: not is_out(net, list(piece)))
    return lambda places: sought(tuple(at(row, places)))


def bad_pieces(net, row):
    """All bad pieces of a row, in the order of lists."""
    never = never_out(net, row)
    return [
        places for places in all_places(row)
        if never(places) and not any(never([p for p in places if p != left]) for left in places)
    ]


class BadPiece(Checks):

    def test_ordinary_rows(self):
        self.told([0, 1, 2], bad_piece, PILE, [20, 30, 10])
        self.told([0, 2, 3], bad_piece, PILE, [20, 10, 30, 0])
        self.told([0, 3], bad_piece, LINE, [3, 4, 5, 1, 2])
        self.told([1, 2], bad_piece, LINE, [-TOP, TOP, 0])

    def test_a_row_that_comes_out_has_none(self):
        self.told(None, bad_piece, PILE, [3, 2, 1])
        self.told(None, bad_piece, LINE, [1, 2, 3])
        for net in [PILE, LINE, STRAIGHT, ([], []), (["line"] * 6, [])]:
            self.told(None, bad_piece, net, [])

    def test_no_ways_bar_each_number(self):
        for net in [([], []), (["pile", "line"], []), (["pile"], [(IN, 0)]), (["pile"], [(0, OUT)])]:
            self.told([0], bad_piece, net, [7])
            self.told([0], bad_piece, net, [7, TOP, 3])

    def test_straight_out_alone_bars_each_falling_pair(self):
        self.told([0, 2], bad_piece, STRAIGHT, [4, 5, 3, 9])
        self.told([1, 3], bad_piece, STRAIGHT, [1, 4, 5, 3])
        self.told(None, bad_piece, STRAIGHT, [1, 4, 5, 6])

    def test_ahead_as_a_list_of_a_shorter_one(self):
        two = side_by_side(["pile", "pile"])
        both = side_by_side(["pile", "line"])
        straight = (both[0], [(IN, OUT)] + both[1])
        three = (["line", "pile", "line"], [(IN, 0), (IN, 2), (0, OUT), (0, 1), (1, OUT), (2, OUT)])
        for net, row, first, shorter in [
            (two, [5, 2, 7, 4, 1, 6, 0, 3], [0, 1, 2, 3, 4, 5, 7], [1, 3, 5, 6]),
            (two, [4, 1, 7, 3, 5, 0, 6, 2], [0, 1, 2, 3, 5, 6, 7], [0, 4, 6, 7]),
            (both, [4, 2, 7, 1, 5, 6, 3, 0], [0, 1, 2, 3, 4, 5, 6], [0, 1, 2, 4, 7]),
            (straight, [4, 1, 7, 2, 6, 0, 5, 3], [0, 1, 2, 3, 5, 6, 7], [0, 1, 2, 4, 5]),
            (three, [4, 2, 5, 1, 6, 3, 0], [0, 1, 3, 4, 5, 6], [0, 2, 3, 5, 6]),
        ]:
            bad = bad_pieces(net, row)
            self.assertEqual(bad[0], first)
            self.assertIn(shorter, bad)
            self.told(first, bad_piece, net, row)

    def test_by_definition(self):
        for many, rows in [
            (0, rows_up_to(4)),
            (1, rows_up_to(4) + rows_of(5)[::7]),
            (2, [[1, 0], [1, 2, 0], [3, 2, 0, 1]]),
        ]:
            for net in nets_of_stations(many):
                for row in rows:
                    bad = bad_pieces(net, row)
                    self.exactly(bad_piece(net, row), bad[0] if bad else None)

    def test_rows_of_eight_numbers(self):
        rows = [
            [7, 6, 5, 4, 3, 2, 1, 0], [1, 3, 5, 7, 0, 2, 4, 6], [3, 5, 2, 6, 7, 1, 4, 0],
            [4, 3, 6, 5, 1, 2, 0, 7],
        ]
        for net in [side_by_side(["line", "line"]), side_by_side(["line", "pile"]), PILE, LINE]:
            for row in rows:
                bad = bad_pieces(net, row)
                self.told(bad[0] if bad else None, bad_piece, net, row)

    def test_the_whole_row_may_be_the_bad_piece(self):
        self.told([0, 1], bad_piece, STRAIGHT, [5, 4])
        self.told([0, 1, 2, 3], bad_piece, side_by_side(["pile", "pile"]), [1, 2, 3, 0])
        self.told([0, 1, 2, 3, 4], bad_piece, side_by_side(["line", "pile"]), [30, 20, 50, 40, 10])

    def test_refused_where_the_row_is(self):
        self.refused(TooMany, bad_piece, *NEVER_2001)
        self.refused(TooMany, bad_piece, *LAST_IS_2002ND)
        self.refused(TooMany, bad_piece, side_by_side(["line"] * 6), list(range(11, -1, -1)))
        self.refused(TooMany, bad_piece, side_by_side(["line", "pile"]), list(range(11, -1, -1)))

    def test_refused_also_where_one_number_alone_is_bad(self):
        # Six piles and no way out: so many standings of five numbers, but 1555 of four.
        net = (["pile"] * 6, [(IN, s) for s in range(6)])
        self.told([0], bad_piece, net, [4, 5, 2, 1])
        self.refused(TooMany, bad_piece, net, [4, 5, 2, 1, 3])

    def test_not_refused_for_less(self):
        self.told([0, 1, 2], bad_piece, *NEVER_2000_OF_LINES)
        self.told(None, bad_piece, *LAST_IS_2000TH_OF_MORE)

    def test_two_alike(self):
        for row in ALIKE:
            for net in [PILE, STRAIGHT, ([], [])]:
                self.refused(NoRow, bad_piece, net, row)

    def test_two_alike_go_ahead_of_too_many(self):
        net, row = NEVER_2001
        self.refused(NoRow, bad_piece, net, row + [3])


def bad_rows(net, most):
    """The least bad rows of a net up to a length, by the words of 21."""
    never = functools.cache(lambda row: not is_out(net, list(row)))
    return [
        row for row in rows_up_to(most)
        if never(tuple(row))
        and not any(never(tuple(ordered(row[:k] + row[k + 1:]))) for k in range(len(row)))
    ]


class LeastBad(Checks):

    def test_up_to_0(self):
        for net in [PILE, LINE, STRAIGHT, ([], []), (["line"] * 6, [])]:
            self.told([], least_bad, net, 0)

    def test_one_station_up_to_6(self):
        self.told([[1, 2, 0]], least_bad, PILE, 6)
        self.told([[1, 0]], least_bad, LINE, 6)
        self.told([[2, 1, 0]], least_bad, (["line"], [(IN, OUT)] + LINE[1]), 6)
        self.told([[0]], least_bad, (["line"], [(IN, 0)]), 6)

    def test_no_stations_up_to_6(self):
        self.told([[1, 0]], least_bad, STRAIGHT, 6)
        self.told([[0]], least_bad, ([], []), 6)

    def test_two_stations_up_to_5(self):
        both = [[2, 1, 4, 3, 0], [3, 4, 1, 2, 0]]
        self.told([[1, 2, 3, 0]], least_bad, side_by_side(["pile", "pile"]), 5)
        self.told([[2, 1, 0]], least_bad, side_by_side(["line", "line"]), 5)
        self.told(both, least_bad, side_by_side(["line", "pile"]), 5)
        self.told([], least_bad, one_behind_the_other(["pile", "pile"]), 5)
        self.told([[1, 2, 0]], least_bad, one_behind_the_other(["pile", "line"]), 5)

    def test_the_length_counts_in(self):
        for most, expected in [(1, []), (2, []), (3, [[1, 2, 0]]), (4, [[1, 2, 0]])]:
            self.told(expected, least_bad, PILE, most)
        for most, expected in [(0, []), (1, []), (2, [[1, 0]]), (3, [[1, 0]])]:
            self.told(expected, least_bad, LINE, most)
        for most, expected in [(0, []), (1, [[0]]), (2, [[0]])]:
            self.told(expected, least_bad, ([], []), most)

    def test_six_stations_up_to_3(self):
        self.told([], least_bad, side_by_side(["line"] * 6), 3)
        self.told([[2, 1, 0]], least_bad, (["line"] * 6, [(IN, 2), (IN, 5), (2, OUT), (5, OUT)]), 3)
        self.told([[0]], least_bad, (["line"] * 6, []), 3)

    def test_several_of_one_length_as_lists(self):
        net = (["pile", "line"], [(IN, 0), (0, OUT), (0, 1), (1, OUT)])
        self.told(bad_rows(net, 5), least_bad, net, 5)
        net = side_by_side(["pile", "line"])
        self.told([[2, 1, 4, 3, 0], [3, 4, 1, 2, 0]], least_bad, net, 5)

    def test_by_definition(self):
        for many, most in [(0, 4), (1, 4), (2, 3)]:
            for net in nets_of_stations(many):
                self.exactly(least_bad(net, most), bad_rows(net, most))
        for words in itertools.product(["pile", "line"], repeat=2):
            for net in [side_by_side(words), one_behind_the_other(words)]:
                self.exactly(least_bad(net, 5), bad_rows(net, 5))

    def test_refused_where_any_row_of_that_length_is(self):
        # Each row of five numbers holds the bad one of one number, and is refused all the same.
        net = (["pile"] * 6, [(IN, s) for s in range(6)])
        self.told([[0]], least_bad, net, 4)
        self.refused(TooMany, least_bad, net, 5)
        self.refused(TooMany, least_bad, net, 6)

    def test_refused_where_only_some_rows_of_that_length_are(self):
        # Rising rows go straight out at once; others wander through the piles.
        net = one_behind_the_other(["pile"] * 6)
        net = (net[0], [(IN, OUT)] + net[1])
        self.told(("doing", [(IN, OUT)] * 4), way_out, net, [0, 1, 2, 3])
        self.told([], least_bad, net, 3)
        refused = [row for row in rows_of(4) if self.is_refused(net, row)]
        self.assertTrue(0 < len(refused) < 24)
        self.refused(TooMany, least_bad, net, 4)

    def is_refused(self, net, row):
        try:
            way_out(net, row)
        except TooMany:
            return True
        return False


class DoingKept(Checks):

    ROW = [30, 10, 20]
    NET = (["pile", "line"], [(IN, OUT), (IN, 0), (0, OUT), (0, 1), (1, OUT)])
    DOING = [(IN, 0), (0, 1), (IN, 0), (0, OUT), (IN, OUT), (1, OUT)]

    def kept(self, expected, places):
        self.told(expected, doing_kept, self.NET, self.ROW, self.DOING, places)

    def test_the_moves_of_each_number(self):
        self.kept([(IN, 0), (0, 1), (1, OUT)], [0])
        self.kept([(IN, 0), (0, OUT)], [1])
        self.kept([(IN, OUT)], [2])

    def test_of_several_numbers_in_order(self):
        self.kept([(IN, 0), (0, 1), (IN, 0), (0, OUT), (1, OUT)], [0, 1])
        self.kept([(IN, 0), (0, 1), (IN, OUT), (1, OUT)], [0, 2])
        self.kept([(IN, 0), (0, OUT), (IN, OUT)], [1, 2])

    def test_to_no_places_and_to_all(self):
        self.kept([], [])
        self.kept(self.DOING, [0, 1, 2])

    def test_a_row_of_no_numbers(self):
        for net in [PILE, ([], []), (["line"] * 6, [])]:
            self.told([], doing_kept, net, [], [], [])

    def test_a_doing_need_not_be_the_shortest(self):
        doing = [(IN, 0), (0, 1), (1, OUT)] * 2
        self.told([(IN, 0), (0, 1), (1, OUT)], doing_kept, self.NET, [1, 2], doing, [1])

    def test_every_doing_and_all_places(self):
        nets = [
            self.NET, PILE, LINE, side_by_side(["line", "pile"]),
            (["line", "pile"], [(IN, 0), (IN, 1), (0, OUT), (0, 1), (1, OUT)]),
        ]
        for net in nets:
            for row in rows_up_to(2) + [[1, 0, 2], [2, 1, 0]]:
                for doing in self.doings(net, row):
                    numbers, _ = walked(net, row, doing)
                    for places in all_places(row):
                        wanted = [row[place] for place in places]
                        expected = [move for move, number in zip(doing, numbers) if number in wanted]
                        told = doing_kept(net, row, doing, places)
                        self.exactly(told, expected)
                        self.assertIs(brings_out(net, at(row, places), told), True)

    def doings(self, net, row):
        """All lists of moves that bring a row out."""
        lists = [([], first_of(net))]
        told = []
        while lists:
            told += [moves for moves, standing in lists if standing == last_of(net, row)]
            steps = [moves + [move] for moves, _ in lists for move in net[1]]
            walks = [(moves, walked(net, row, moves)) for moves in steps]
            lists = [(moves, walk[1]) for moves, walk in walks if walk is not None]
        return told

    def test_seven_far_numbers(self):
        net = side_by_side(["pile", "line"])
        row = [number * 10 ** 58 - TOP for number in [3, 1, 0, 2, 5, 4, 6]]
        kind, doing = way_out(net, row)
        self.assertEqual(kind, "doing")
        numbers, _ = walked(net, row, doing)
        for places in all_places(row):
            wanted = [ordered(row)[place] for place in places]
            expected = [move for move, number in zip(doing, numbers) if number in wanted]
            self.exactly(doing_kept(net, row, doing, places), expected)
            self.assertIs(brings_out(net, at(row, places), expected), True)

    def test_doings_that_do_not_bring_the_row_out(self):
        for doing in [
            [], self.DOING[:-1], self.DOING[1:], self.DOING + [(IN, 0)], self.DOING[::-1], [(7, 7)] * 6,
            self.DOING[:5] + [(0, OUT)], [(TOP, -TOP)] + self.DOING, [(IN, OUT)] * 3,
        ]:
            for places in [[], [0], [1, 2], [0, 1, 2]]:
                self.refused(NoDoing, doing_kept, self.NET, self.ROW, doing, places)
        self.refused(NoDoing, doing_kept, PILE, [], [(IN, 0)], [])
        self.refused(NoDoing, doing_kept, PILE, [5], [], [])
        self.refused(NoDoing, doing_kept, ([], []), [5], [(IN, OUT)], [0])

    def test_a_doing_that_brings_only_the_piece_out(self):
        self.refused(NoDoing, doing_kept, self.NET, self.ROW, [(IN, OUT)], [1])
        self.refused(NoDoing, doing_kept, self.NET, self.ROW, [(IN, OUT), (IN, OUT)], [1, 2])

    def test_lists_that_are_no_places(self):
        row = [5, 1, 3, 2]
        kind, doing = way_out(self.NET, row)
        self.assertEqual(kind, "doing")
        for places in NO_PLACES:
            self.refused(NoPlace, doing_kept, self.NET, row, doing, places)

    def test_the_places_go_ahead_of_the_doing(self):
        for places in NO_PLACES:
            for doing in [[], [(7, 7)], [(IN, 0)]]:
                self.refused(NoPlace, doing_kept, self.NET, [5, 1, 3, 2], doing, places)
        self.refused(NoPlace, doing_kept, self.NET, [], [], [0])

    def test_two_alike_go_ahead_of_all(self):
        for row in ALIKE:
            for places in [[], [0]] + NO_PLACES:
                for doing in [[], [(7, 7)], self.DOING]:
                    self.refused(NoRow, doing_kept, self.NET, row, doing, places)


if __name__ == "__main__":
    unittest.main()
