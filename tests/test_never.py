"""Points 17 and 18, and points 2 and 3 of these: papers of never, and all standings of a row."""

import itertools
import random
import unittest

from pilenets.errors import NoRow, TooMany
from pilenets.never import all_standings, never_shows
from tests.by_definition import (
    IN, JUST_2000_WITH_THE_LAST, JUST_2001_WITH_THE_LAST, LAST_IS_2000TH, LAST_IS_2000TH_OF_MORE,
    NEVER_2000, NEVER_2001, NEVER_2001_OF_THREE, OUT, TOP, Checks, done, first_of, found_by_lists,
    last_of, nets_of_stations, one_behind_the_other, reached_from, rows_of, rows_up_to, side_by_side,
    subsets,
)

PILE = one_behind_the_other(["pile"])
ROW = [20, 30, 10]
# All standings of that row by that pile, from which it never comes out.
PAPER = [
    (0, ((),), 0), (1, ((1,),), 0), (2, ((1, 2),), 0), (3, ((1, 2, 0),), 0), (3, ((1, 2),), 1),
]


def let_by(net, row, paper):
    """Whether a paper of standings of the net's form is one of never, by the words of 17."""
    if first_of(net) not in paper or last_of(net, row) in paper:
        return False
    for standing in paper:
        for move in net[1]:
            step = done(net, row, standing, move)
            if step is not None and step[1] not in paper:
                return False
    return True


class NeverShows(Checks):

    def shows(self, expected, paper, net=PILE, row=ROW):
        self.told(expected, never_shows, net, row, paper)

    def test_all_standings_of_a_row_that_never_comes_out(self):
        self.shows(True, PAPER)

    def test_in_any_order(self):
        for paper in itertools.permutations(PAPER):
            self.assertIs(never_shows(PILE, ROW, list(paper)), True)

    def test_some_standings_twice(self):
        for standing in PAPER:
            self.shows(True, PAPER + [standing])
            self.shows(True, [standing, standing] + PAPER)
        self.shows(True, PAPER * 3)

    def test_a_standing_left_out(self):
        for at in range(5):
            self.shows(False, PAPER[:at] + PAPER[at + 1:])
            self.shows(False, PAPER[:at] + PAPER[at + 1:] + PAPER[:at])

    def test_no_standings(self):
        self.shows(False, [])
        self.shows(False, [], ([], []), [1])
        self.shows(False, [], ([], []), [])

    def test_the_first_standing_alone(self):
        self.shows(True, [(0, (), 0)], ([], []), [1])
        self.shows(True, [(0, (), 0)], ([], [(IN, OUT)]), [2, 1])
        self.shows(False, [(0, (), 0)], ([], [(IN, OUT)]), [1, 2])
        self.shows(False, PAPER[:1])
        self.shows(True, [(0, ((), ()), 0)], (["pile", "line"], [(0, 1), (1, OUT)]), [5])

    def test_the_last_one_among_them(self):
        self.shows(False, PAPER + [(3, ((),), 3)])
        self.shows(False, [(3, ((),), 3)] + PAPER)
        self.shows(False, [(3, ((),), 3)])
        net = (["pile"], [(IN, 0)])
        paper = [(0, ((),), 0), (1, ((0,),), 0)]
        self.shows(True, paper, net, [4])
        self.shows(False, paper + [(1, ((),), 1)], net, [4])

    def test_a_row_of_no_numbers_has_no_paper(self):
        # Its first standing is its last one.
        for net in [([], []), PILE, (["line"] * 6, [])]:
            self.shows(False, [first_of(net)], net, [])
            self.shows(False, [], net, [])
        self.shows(False, [(0, ((5,),), 1), (0, ((),), 0)], PILE, [])

    def test_a_row_that_comes_out_has_no_paper(self):
        row = [2, 1, 0]
        standings = reached_from(PILE, row, [first_of(PILE)])
        self.shows(False, standings, row=row)
        standings.remove(last_of(PILE, row))
        self.shows(False, standings, row=row)

    def test_another_number_of_stations(self):
        for held in [(), ((), ()), ((), (1,)), ((), (), ())]:
            self.shows(False, PAPER + [(0, held, 0)])
            self.shows(False, [(3, held, 3)] + PAPER)
            self.shows(False, PAPER[1:] + [(0, held, 0)])
        self.shows(False, [(0, (), 0), (0, ((),), 0)], ([], []), [1])
        self.shows(False, [(gone, (), out) for gone, _, out in PAPER])

    def test_stations_more_than_the_net_has_that_no_move_asks_for(self):
        net = (["pile"], [])
        self.shows(True, [(0, ((),), 0)], net, [1])
        self.shows(False, [(0, ((),), 0), (0, ((), ()), 0)], net, [1])
        self.shows(False, [(0, ((),), 0), (0, (), 0)], net, [1])

    def test_gone_below_0_or_above_how_many_numbers_there_are(self):
        for gone in [-1, -2, -3, -TOP, 4, 5, TOP]:
            self.shows(False, PAPER + [(gone, ((),), 0)])
            self.shows(False, [(gone, ((9,),), 7)] + PAPER)
            self.shows(False, [(0, (), 0), (gone, (), 0)], ([], []), [3, 4, 5])
        self.shows(False, [(0, (), 0), (2, (), 1)], ([], []), [5])

    def test_standings_that_no_doing_comes_to(self):
        for more in [
            [(3, ((TOP,),), 5)], [(3, ((7, 8, 9),), -4)], [(3, ((),), 2)], [(3, ((),), TOP)],
            [(3, ((-1, -2),), -1)], [(3, ((5,),), 5), (3, ((),), 6)], [(2, ((),), 5), (3, ((0,),), 5)],
            [(3, ((-5, 1),), 1), (3, ((-5,),), 2)],
        ]:
            self.shows(True, PAPER + more)
            self.shows(True, more + PAPER)
        for more in [[(3, ((5,),), 5)], [(2, ((),), 5)], [(3, ((-5, 1),), 1)], [(3, ((-5,),), -5)]]:
            self.shows(False, PAPER + more)
            self.shows(False, more + PAPER)

    def test_standings_from_which_the_last_one_is_come_to(self):
        more = [(3, ((2,),), 2)]
        self.shows(False, PAPER + more)
        self.shows(False, PAPER + more + [(3, ((),), 3)])

    def test_papers_of_far_standings(self):
        net = (["pile"], [(0, OUT)])
        self.shows(True, [(0, ((),), 0), (0, ((TOP,),), TOP), (0, ((),), TOP + 1)], net, [8])
        self.shows(False, [(0, ((),), 0), (0, ((TOP,),), TOP), (0, ((),), TOP)], net, [8])

    def test_numbers_of_the_paper_are_those_of_the_row_put_to_its_order(self):
        for row in [[1, 2, 0], [0, TOP, -TOP], [-2, -1, -3]]:
            self.shows(True, PAPER, row=row)
        self.shows(False, [
            (0, ((),), 0), (1, ((20,),), 0), (2, ((20, 30),), 0), (3, ((20, 30, 10),), 0),
        ])

    def test_another_net_or_row(self):
        for row in rows_of(3):
            self.shows(row == [1, 2, 0], PAPER, row=row)
        self.shows(False, PAPER, row=[1, 2])
        self.shows(False, PAPER, row=[1, 2, 0, 3])
        self.shows(False, PAPER, one_behind_the_other(["line"]))
        self.shows(False, PAPER, (["pile"], [(IN, OUT), (IN, 0), (0, OUT)]), [0, 1, 2])

    def test_two_thousand_standings(self):
        net, row = NEVER_2000
        paper = reached_from(net, row, [first_of(net)])
        self.assertIs(never_shows(net, row, paper), True)
        self.assertIs(never_shows(net, row, paper[::-1]), True)
        self.assertIs(never_shows(net, row, paper[:-1]), False)
        self.assertIs(never_shows(net, row, paper[1:]), False)

    def test_two_alike_go_ahead_of_all(self):
        for row in [[1, 1], [2, 0, 2], [TOP, 5, TOP]]:
            for paper in [[], PAPER, [(0, (), 0)], [(-1, ((),), 0)], [(9, ((), ()), 0)]]:
                self.refused(NoRow, never_shows, PILE, row, paper)

    def test_every_paper_of_few_standings(self):
        for net, row in [(PILE, [1, 0]), (([], [(IN, OUT)]), [1, 2, 0]), ((["line"], [(IN, 0), (0, OUT)]), [1, 0])]:
            few = reached_from(net, row, [first_of(net)])
            odd = (len(row), tuple((0,) for _ in net[0]), 0)
            few += [standing for standing in reached_from(net, row, [odd]) if standing not in few]
            for paper in subsets(few):
                self.assertIs(never_shows(net, row, paper), let_by(net, row, paper))

    def test_every_net_of_two_stations(self):
        chance = random.Random(3)
        for net in nets_of_stations(2):
            for row in [[4], [1, 0], [1, 2, 0]]:
                paper = reached_from(net, row, [first_of(net)])
                out = last_of(net, row) in paper
                self.assertIs(never_shows(net, row, paper), not out)
                odd = (chance.randrange(len(row)), ((9, 0), (0, -1)), chance.randrange(2))
                longer = reached_from(net, row, paper + [odd])
                self.assertIs(never_shows(net, row, longer), let_by(net, row, longer))
                shorter = [standing for standing in paper if chance.random() < 0.8]
                self.assertIs(never_shows(net, row, shorter), let_by(net, row, shorter))


class AllStandings(Checks):

    def test_of_a_row_that_never_comes_out(self):
        self.told(PAPER, all_standings, PILE, ROW)

    def test_of_a_row_that_comes_out_the_last_one_is_among_them(self):
        self.told(
            [(0, ((),), 0), (1, ((1,),), 0), (2, ((1, 0),), 0), (2, ((1,),), 1), (2, ((),), 2)],
            all_standings, PILE, [9, 3],
        )

    def test_those_found_behind_the_last_one_too(self):
        net = (["pile", "line"], [(IN, OUT), (IN, 0), (0, 1)])
        self.told(
            [(0, ((), ()), 0), (1, ((), ()), 1), (1, ((0,), ()), 0), (1, ((), (0,)), 0)],
            all_standings, net, [-4],
        )

    def test_no_numbers_and_no_stations(self):
        self.told([(0, (), 0)], all_standings, ([], []), [])
        self.told([(0, (), 0)], all_standings, ([], [(IN, OUT)]), [])
        self.told([(0, ((), ()), 0)], all_standings, (["pile", "line"], []), [])
        self.told([(0, (), 0)], all_standings, ([], []), [TOP])
        self.told([(0, (), 0), (1, (), 1)], all_standings, ([], [(IN, OUT)]), [TOP])
        self.told([(0, (), 0)], all_standings, ([], [(IN, OUT)]), [TOP, -TOP])

    def test_by_definition(self):
        for many, rows in [(0, rows_up_to(3)), (1, rows_up_to(4)), (2, rows_up_to(2) + [[1, 2, 0]])]:
            for net in nets_of_stations(many):
                for row in rows:
                    self.exactly(all_standings(net, row), list(found_by_lists(net, row)))

    def test_twelve_numbers(self):
        # Each number went in or not, and came out or not, in order: a line holds what is between.
        line = one_behind_the_other(["line"])
        expected = sorted(
            ((gone, (tuple(range(out, gone)),), out) for gone in range(13) for out in range(gone + 1)),
            key=lambda standing: (standing[0] + standing[2], -standing[0]),
        )
        self.told(expected, all_standings, line, [k * 10 ** 57 for k in range(12)])

    def test_just_two_thousand_in_all(self):
        for net, row in [NEVER_2000, JUST_2000_WITH_THE_LAST]:
            expected = reached_from(net, row, [first_of(net)])
            self.assertEqual(len(expected), 2000)
            self.exactly(all_standings(net, row), expected)
        self.assertIn(last_of(net, row), expected)

    def test_one_more(self):
        for net, row in [NEVER_2001, NEVER_2001_OF_THREE, JUST_2001_WITH_THE_LAST, LAST_IS_2000TH]:
            self.assertEqual(len(reached_from(net, row, [first_of(net)])), 2001)
            self.refused(TooMany, all_standings, net, row)

    def test_too_many_behind_the_last_one(self):
        self.refused(TooMany, all_standings, *LAST_IS_2000TH_OF_MORE)
        # Straight out all come at once, and a heap of standings is found behind that.
        net = (["pile"] * 6, [(IN, OUT)] + [(IN, s) for s in range(6)])
        self.refused(TooMany, all_standings, net, list(range(5)))
        self.refused(TooMany, all_standings, net, list(range(10)))

    def test_two_alike(self):
        for row in [[1, 1], [2, 0, 2], [TOP, 5, TOP]]:
            self.refused(NoRow, all_standings, PILE, row)
            self.refused(NoRow, all_standings, ([], []), row)

    def test_two_alike_go_ahead_of_too_many(self):
        net, row = NEVER_2001
        self.refused(NoRow, all_standings, net, row + [0])
        self.refused(NoRow, all_standings, side_by_side(["pile"] * 6), [3] + list(range(10)))


if __name__ == "__main__":
    unittest.main()
