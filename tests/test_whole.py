"""Point 4: what is told by one file holds together with what the others tell."""

import itertools
import random
import unittest

from pilenets.alike import first_parting
from pilenets.counts import how_many_rows, rows_by_shapes, rows_by_sums, rows_kept_in
from pilenets.doings import brings_out
from pilenets.errors import TooMany
from pilenets.found import comes_out, how_many_doings, way_out
from pilenets.joined import doing_beside, nets_behind, nets_beside
from pilenets.lists import put_to_order
from pilenets.never import all_standings, never_shows
from pilenets.pieces import bad_piece, doing_kept, piece_at
from pilenets.sidelines import doing_by_lines, falling_piece, line_numbers, lines_net, piles_net
from pilenets.sidepiles import branches_show, doing_by_piles, fewest_piles, marks_good, marks_or_never
from pilenets.texts import doing_text, net_text, read_doing, read_net, read_row, row_text
from tests.by_definition import (
    IN, OUT, TOP, first_of, is_out, last_of, nets_of_stations, one_behind_the_other, reached_from, rows_of,
    rows_up_to, side_by_side,
)


def chance_nets(many, seed):
    """Nets of three to six stations, by a chance that is the same each time."""
    chance = random.Random(seed)
    for _ in range(many):
        stations = chance.randrange(3, 7)
        order = chance.sample(range(stations), stations)
        ways = [(a, b) for a, b in itertools.combinations(order, 2)] + [(IN, OUT)]
        ways += [(IN, s) for s in order] + [(s, OUT) for s in order]
        part = chance.choice([0.2, 0.4, 0.7])
        words = [chance.choice(["pile", "line"]) for _ in range(stations)]
        yield words, sorted(way for way in ways if chance.random() < part)


class JustOneIsTold(unittest.TestCase):

    def check(self, net, row):
        try:
            kind, told = way_out(net, row)
        except TooMany:
            self.assertGreater(len(reached_from(net, row, [first_of(net)], 2000)), 2000)
            for ask in [how_many_doings, comes_out, bad_piece, all_standings]:
                self.assertRaises(TooMany, ask, net, row)
            return "too many"
        self.assertIn(kind, ["doing", "never"])
        if kind == "doing":
            self.check_doing(net, row, told)
        else:
            self.check_paper(net, row, told)
        return kind

    def check_doing(self, net, row, doing):
        self.assertIs(brings_out(net, row, doing), True)
        self.assertIs(is_out(net, row), True)
        self.assertIs(comes_out(net, row), True)
        self.assertGreaterEqual(how_many_doings(net, row), 1)
        self.assertIsNone(bad_piece(net, row))
        standings = reached_from(net, row, [first_of(net)])
        self.assertIs(never_shows(net, row, standings), False)
        standings.remove(last_of(net, row))
        self.assertIs(never_shows(net, row, standings), False)
        for left in range(len(row)):
            places = [place for place in range(len(row)) if place != left]
            kept = doing_kept(net, row, doing, places)
            self.assertIs(brings_out(net, piece_at(row, places), kept), True)

    def check_paper(self, net, row, paper):
        self.assertIs(never_shows(net, row, paper), True)
        self.assertIs(is_out(net, row), False)
        self.assertIs(comes_out(net, row), False)
        self.assertEqual(how_many_doings(net, row), 0)
        self.assertEqual(all_standings(net, row), paper)
        places = bad_piece(net, row)
        piece = piece_at(row, places)
        self.assertIs(comes_out(net, piece), False)
        for left in range(len(piece)):
            self.assertIs(comes_out(net, put_to_order(piece[:left] + piece[left + 1:])), True)

    def test_every_net_of_at_most_two_stations(self):
        for many in range(3):
            for net in nets_of_stations(many):
                for row in rows_up_to(2) + [[1, 2, 0], [0, 2, 1], [2, 1, 0]]:
                    self.check(net, row)

    def test_nets_of_more_stations(self):
        kinds = set()
        rows = [[], [5], [TOP, -TOP], [2, 1, 0], [1, 3, 2, 0]]
        for net in chance_nets(60, 1):
            for row in rows:
                kinds.add(self.check(net, row))
        self.assertEqual(kinds, {"doing", "never", "too many"})

    def test_rows_of_many_numbers(self):
        rows = [
            [9 * k % 10 for k in range(10)], [3 * k % 10 for k in range(10)], list(range(10)), [1, 2, 4, 3, 0, 6, 5, 7],
        ]
        for words in [["pile"], ["line"], ["line", "line"], ["pile", "line"], ["pile", "pile"]]:
            for row in rows:
                self.check_long(side_by_side(words), row)
                self.check_long(one_behind_the_other(words), row)

    def check_long(self, net, row):
        """As above, but for bad pieces, which are asked of shorter rows."""
        try:
            kind, told = way_out(net, row)
        except TooMany:
            self.assertGreater(len(reached_from(net, row, [first_of(net)], 2000)), 2000)
            return
        self.assertIs(comes_out(net, row), is_out(net, row))
        self.assertEqual(kind, "doing" if is_out(net, row) else "never")
        judge = brings_out if kind == "doing" else never_shows
        self.assertIs(judge(net, row, told), True)


class WhateverIsLetBy(unittest.TestCase):

    def test_whatever_doing_is_let_by_the_row_comes_out(self):
        net = (["pile", "line"], [(IN, 0), (0, OUT), (0, 1), (1, OUT)])
        let = 0
        for row in [[4], [2, 1], [1, 2]]:
            for many in range(7):
                for doing in itertools.product(net[1], repeat=many):
                    if brings_out(net, row, list(doing)):
                        let += 1
                        self.assertIs(is_out(net, row), True)
                        self.assertGreaterEqual(len(doing), len(way_out(net, row)[1]))
        self.assertGreater(let, 5)

    def test_whatever_paper_is_let_by_the_row_never_comes_out(self):
        chance = random.Random(8)
        let = 0
        for net in nets_of_stations(1):
            for row in rows_of(2):
                standings = reached_from(net, row, [first_of(net), (1, ((0, 0),), 1), (0, ((1,),), 0)])
                for _ in range(60):
                    paper = [standing for standing in standings if chance.random() < 0.8]
                    if never_shows(net, row, paper):
                        let += 1
                        self.assertIs(is_out(net, row), False)
        self.assertGreater(let, 20)

    def test_whatever_bad_piece_the_whole_row_never_comes_out(self):
        for net in [side_by_side(["pile"]), one_behind_the_other(["pile", "line"]), side_by_side(["line"] * 2)]:
            for row in rows_of(5):
                places = bad_piece(net, row)
                self.assertIs(is_out(net, row), places is None)


class SideBySide(unittest.TestCase):

    def rows(self):
        """All rows of up to five numbers, and some of six."""
        return rows_up_to(5) + rows_of(6)[::17]

    def test_lines_just_where_no_falling_piece_is_longer(self):
        for row in self.rows():
            longest = len(falling_piece(row))
            for many in range(4):
                self.assertIs(comes_out(lines_net(many), row), longest <= many)
            doing = doing_by_lines(row, longest, line_numbers(row))
            self.assertIs(brings_out(lines_net(longest), row, doing), True)

    def test_piles_just_where_there_are_good_marks(self):
        for row in self.rows():
            fewest, first = fewest_piles(row)
            self.assertIs(comes_out(piles_net(0), row), fewest == 0)
            for many in range(1, 4):
                kind, told = marks_or_never(row, many)
                self.assertIs(comes_out(piles_net(many), row), fewest <= many)
                self.assertEqual(kind, "marks" if fewest <= many else "never")
                if kind == "marks":
                    self.assertIs(marks_good(row, many, told), True)
                    self.assertIs(brings_out(piles_net(many), row, doing_by_piles(row, many, told)), True)
                else:
                    self.assertIs(branches_show(row, many, told), True)
            self.assertIs(marks_good(row, fewest, first), True)
            self.assertIs(brings_out(piles_net(fewest), row, doing_by_piles(row, fewest, first)), True)

    def test_rows_counted_one_way_and_another(self):
        for length in range(7):
            for many in range(4 if length < 6 else 3):
                net = lines_net(many)
                self.assertEqual(how_many_rows(net, length), rows_by_shapes(length, many))
                self.assertTrue(all(len(falling_piece(row)) > many for row in rows_kept_in(net, length)))
            self.assertEqual(how_many_rows(piles_net(1), length), rows_by_sums(length))


class PutTogether(unittest.TestCase):

    NETS = [
        ([], []), ([], [(IN, OUT)]), side_by_side(["pile"]), side_by_side(["line"]), side_by_side(["pile", "line"]),
        one_behind_the_other(["pile", "pile"]), (["line"], [(IN, OUT), (IN, 0), (0, OUT)]),
        (["pile", "pile"], [(IN, 1), (0, OUT), (1, 0)]),
    ]

    def test_what_comes_out_of_either_comes_out_of_both_beside_one_another(self):
        for one, other in itertools.product(self.NETS, repeat=2):
            both = nets_beside(one, other)
            for row in rows_up_to(3) + [[2, 3, 1, 0]]:
                for net, first in [(one, True), (other, False)]:
                    kind, told = way_out(net, row)
                    if kind == "doing":
                        self.assertIs(brings_out(both, row, doing_beside(one, other, row, told, first)), True)
                        self.assertIs(comes_out(both, row), True)

    def test_what_the_one_brings_into_an_order_that_the_other_one_brings_out(self):
        for one, other in itertools.product(self.NETS, repeat=2):
            both = nets_behind(one, other)
            for row in rows_up_to(3):
                orders = [list(order) for order in itertools.permutations(row)]
                through = [
                    order for order in orders
                    if comes_out(one, [order.index(number) for number in row]) and comes_out(other, order)
                ]
                self.assertIs(comes_out(both, row), through != [])

    def test_the_first_row_that_parts_is_kept_in_by_just_one(self):
        for one, other in itertools.product(self.NETS, repeat=2):
            row = first_parting(one, other, 4)
            for length in range(5 if row is None else len(row)):
                self.assertEqual(rows_kept_in(one, length), rows_kept_in(other, length))
            if row is not None:
                first, second = rows_kept_in(one, len(row)), rows_kept_in(other, len(row))
                parted = [only for only in first if only not in second] + [only for only in second if only not in first]
                self.assertEqual(row, min(parted))

    def test_what_is_told_is_written_and_read_as_it_was(self):
        for one, other in itertools.product(self.NETS, repeat=2):
            for net in [nets_beside(one, other), nets_behind(one, other)]:
                self.assertEqual(read_net(net_text(net)), net)
                for row in [[], [4], [10 ** 29, -10 ** 29], [2, 3, 1]]:
                    self.assertEqual(read_row(row_text(row)), row)
                    kind, told = way_out(net, row)
                    if kind == "doing":
                        self.assertEqual(read_doing(doing_text(told)), told)


if __name__ == "__main__":
    unittest.main()
