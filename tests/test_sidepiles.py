"""Points 34 to 38: places against one another, marks, papers of branches, and the doing by piles."""

import copy
import itertools
import random
import unittest

from pilenets.doings import brings_out
from pilenets.errors import NoDoing, NoMark, NoNumber, NoRow
from pilenets.sidelines import piles_net
from pilenets.sidepiles import (
    against_pairs, branches_show, doing_by_piles, fewest_piles, marks_good, marks_or_never,
)
from tests.by_definition import (
    ALIKE, IN, NO_MARKS, OUT, TOP, Checks, against, all_good_marks, branches, doing_by, rows_of, rows_up_to,
    side_by_side,
)

# Each number but the last stands against each other one of these.
FORTY = list(range(1, 40)) + [0]
TWELVE = list(range(1, 12)) + [0]


def far_row(many, seed):
    """A row of so many numbers of sixty figures, by a chance that is the same each time."""
    chance = random.Random(seed)
    return [chance.randint(-TOP, TOP) for _ in range(many)]


class AgainstPairs(Checks):

    def test_ordinary_rows(self):
        self.told([(0, 1)], against_pairs, [20, 30, 10])
        self.told([(0, 1), (0, 2), (1, 2)], against_pairs, [2, 3, 4, 1])
        self.told([(0, 3), (1, 3), (2, 3)], against_pairs, [30, 20, 10, 40, 0])
        self.told([(1, 2)], against_pairs, [1, 3, 5, 2])

    def test_rows_without_any(self):
        for row in [[], [7], [-TOP], [1, 2], [2, 1], [1, 2, 3], [3, 2, 1], [3, 1, 2], [1, 3, 2], [2, 1, 3]]:
            self.told([], against_pairs, row)

    def test_the_lesser_number_stands_behind_the_second_one(self):
        self.told([], against_pairs, [2, 1, 3])
        self.told([(0, 1)], against_pairs, [3, 5, 2, 4])
        self.told([(0, 1), (0, 2)], against_pairs, [3, 5, 4, 2])

    def test_numbers_far_apart(self):
        self.told([(0, 1), (0, 2)], against_pairs, [TOP - 2, TOP, TOP - 1, -TOP])
        self.told([(1, 2)], against_pairs, [-TOP, 10 ** 58, 10 ** 58 + 1, 10 ** 58 - 1])

    def test_every_row_up_to_six(self):
        for row in rows_up_to(6):
            self.exactly(against_pairs(row), against(row))

    def test_forty_numbers(self):
        self.told(list(itertools.combinations(range(39), 2)), against_pairs, FORTY)
        self.told([], against_pairs, list(range(40)))
        self.told([], against_pairs, list(range(40, 0, -1)))
        for seed in range(4):
            row = far_row(40, seed)
            self.told(against(row), against_pairs, row)

    def test_two_alike(self):
        for row in ALIKE:
            self.refused(NoRow, against_pairs, row)


class MarksGood(Checks):

    def test_ordinary_marks(self):
        row = [20, 30, 10]
        self.told(True, marks_good, row, 2, [0, 1, 0])
        self.told(True, marks_good, row, 2, [1, 0, 0])
        self.told(True, marks_good, row, 9, [8, 3, 8])
        self.told(False, marks_good, row, 2, [0, 0, 1])
        self.told(False, marks_good, row, 2, [1, 1, 0])

    def test_one_for_each_place(self):
        row = [20, 30, 10]
        for marks in [[], [0], [0, 1], [0, 1, 0, 0], [0, 1, 0, 1, 0]]:
            self.told(False, marks_good, row, 2, marks)
        self.told(False, marks_good, [], 2, [0])
        self.told(False, marks_good, [5], 2, [])

    def test_from_0_on_and_below_so_many(self):
        row = [20, 30, 10]
        for marks in [[0, 2, 0], [0, 1, 2], [2, 1, 0], [0, -1, 0], [-1, 0, 1], [0, 1, -1], [0, TOP, 0], [-TOP, 0, 0]]:
            self.told(False, marks_good, row, 2, marks)
        self.told(True, marks_good, row, 3, [0, 2, 0])
        self.told(False, marks_good, [5], 0, [0])
        self.told(False, marks_good, [5], 1, [1])
        self.told(False, marks_good, [5], -2, [-3])

    def test_of_no_numbers(self):
        for many in [0, 1, 6, 10 ** 29]:
            self.told(True, marks_good, [], many, [])

    def test_great_numbers(self):
        self.told(True, marks_good, [20, 30, 10], 10 ** 30 - 1, [10 ** 30 - 2, 10 ** 29, 0])
        self.told(False, marks_good, [20, 30, 10], 10 ** 30 - 1, [10 ** 30 - 1, 10 ** 29, 0])
        self.told(False, marks_good, [20, 30, 10], 10 ** 30 - 1, [10 ** 29, 10 ** 29, 0])
        self.told(True, marks_good, [TOP - 1, TOP, -TOP], 2, [0, 1, 0])
        self.told(False, marks_good, [TOP - 1, TOP, -TOP], 2, [0, 0, 0])

    def test_every_row_up_to_four_and_all_lists(self):
        for row in rows_up_to(4):
            for many in range(4):
                good = list(all_good_marks(row, many))
                for marks in itertools.product(range(-1, 4), repeat=len(row)):
                    self.assertIs(marks_good(row, many, list(marks)), list(marks) in good)

    def test_forty_numbers(self):
        marks = list(range(39)) + [38]
        self.told(True, marks_good, FORTY, 39, marks)
        self.told(False, marks_good, FORTY, 38, marks)
        self.told(False, marks_good, FORTY, 39, marks[:38] + [0, 0])
        self.told(False, marks_good, FORTY, 39, marks[:39])
        row = far_row(40, 7)
        self.told(True, marks_good, row, 40, list(range(40)))
        for i, j in itertools.combinations(range(40), 2):
            marks = list(range(40))
            marks[j] = marks[i]
            self.assertIs(marks_good(row, 40, marks), (i, j) not in against(row))

    def test_two_alike_go_ahead_of_all(self):
        for row in ALIKE:
            for marks in [[], [0], [0] * len(row), list(range(len(row))), [-1] * len(row)]:
                self.refused(NoRow, marks_good, row, 2, marks)


class FewestPiles(Checks):

    def test_ordinary_rows(self):
        self.told((2, [0, 1, 0]), fewest_piles, [20, 30, 10])
        self.told((1, [0, 0, 0]), fewest_piles, [30, 10, 20])
        self.told((3, [0, 1, 2, 0]), fewest_piles, [2, 3, 4, 1])

    def test_of_no_numbers_and_of_one(self):
        self.told((0, []), fewest_piles, [])
        for number in [0, 7, -7, TOP, -TOP]:
            self.told((1, [0]), fewest_piles, [number])

    def test_every_row_up_to_six(self):
        for row in rows_up_to(6):
            many = next(many for many in range(7) if any(True for _ in all_good_marks(row, many)))
            self.exactly(fewest_piles(row), (many, next(all_good_marks(row, many))))

    def test_first_marks_that_are_not_the_least_free_ones(self):
        # Place after place with the least mark that is free would need a third pile.
        found = 0
        for row in rows_of(6):
            least_free = []
            for place in range(6):
                taken = [least_free[i] for i, j in against(row) if j == place]
                least_free.append(min(mark for mark in range(7) if mark not in taken))
            many, marks = fewest_piles(row)
            if marks != least_free:
                self.assertGreater(max(least_free) + 1, many)
                found += 1
        self.assertGreater(found, 0)

    def test_twelve_numbers(self):
        self.told((11, list(range(11)) + [0]), fewest_piles, TWELVE)
        self.told((1, [0] * 12), fewest_piles, list(range(12, 0, -1)))
        for seed in range(12):
            row = far_row(12, seed)
            many, marks = fewest_piles(row)
            self.assertIsNone(next(all_good_marks(row, many - 1), None))
            self.told((many, next(all_good_marks(row, many))), fewest_piles, row)

    def test_two_alike(self):
        for row in ALIKE:
            self.refused(NoRow, fewest_piles, row)


def walks_well(row, many, paper, given):
    """Whether nothing is wrong in a paper of branches, by the words of 36."""
    if paper[0] == "against":
        marks = [mark for place in paper[1:] for other, mark in given if other == place]
        return len(marks) == 2 and marks[0] == marks[1] and paper[1:] in against(row)
    taken = [mark for _, mark in given]
    unused = next(mark for mark in itertools.count() if mark not in taken)
    due = [mark for mark in range(many) if mark <= unused]
    place = paper[1]
    return (
        place in range(len(row)) and place not in [other for other, _ in given] and len(paper[2]) == len(due)
        and all(walks_well(row, many, part, given + [(place, mark)]) for mark, part in zip(due, paper[2]))
    )


def ways_into(paper, way=()):
    """The ways to all parts of a paper: by which of its papers each is come to."""
    yield way
    if paper[0] == "branch":
        for number, part in enumerate(paper[2]):
            yield from ways_into(part, (*way, number))


def part_at(paper, way):
    for number in way:
        paper = paper[2][number]
    return paper


def with_part(paper, way, part):
    """A paper with another part at the end of a way."""
    if not way:
        return part
    word, place, papers = paper
    return word, place, papers[:way[0]] + [with_part(papers[way[0]], way[1:], part)] + papers[way[0] + 1:]


def variants(part, whole):
    """Other parts, to stand in the place of a part of a paper."""
    yield whole
    yield "against", 0, 1
    yield "branch", 0, [part]
    word, first, second = part
    for number in [-TOP, -1, 0, 1, 2, 3, 4, TOP]:
        yield word, number, second
        if word == "against":
            yield word, first, number
    if word == "branch":
        for many in range(5):
            yield word, first, (second * 4)[:many]


class BranchesShow(Checks):

    ROW = [20, 30, 10]
    PAPER = ("branch", 0, [("branch", 1, [("against", 0, 1)])])
    # Three places against one another, for two piles.
    ROW_OF_FOUR = [2, 3, 4, 1]
    PAPER_OF_FOUR = ("branch", 0, [("branch", 1, [
        ("against", 0, 1),
        ("branch", 2, [("against", 0, 2), ("against", 1, 2)]),
    ])])

    def test_papers_that_are_let_by(self):
        self.told(True, branches_show, self.ROW, 1, self.PAPER)
        self.told(True, branches_show, self.ROW_OF_FOUR, 2, self.PAPER_OF_FOUR)
        self.told(True, branches_show, [TOP - 1, TOP, -TOP], 1, self.PAPER)

    def test_places_in_any_order(self):
        self.told(True, branches_show, self.ROW, 1, ("branch", 1, [("branch", 0, [("against", 0, 1)])]))
        self.told(True, branches_show, self.ROW_OF_FOUR, 2, ("branch", 2, [("branch", 0, [
            ("against", 0, 2),
            ("branch", 1, [("against", 1, 2), ("against", 0, 1)]),
        ])]))

    def test_a_place_without_need(self):
        paper = ("branch", 2, [self.PAPER])
        self.told(True, branches_show, self.ROW, 1, paper)
        paper = ("branch", 0, [("branch", 2, [("branch", 1, [("against", 0, 1)])])])
        self.told(True, branches_show, self.ROW, 1, paper)

    def test_other_leaves_in_other_papers(self):
        # The third place is against both others: a leaf may tell just the one of its mark.
        for first, second, expected in [
            ((0, 2), (1, 2), True), ((1, 2), (0, 2), False), ((0, 2), (0, 2), False), ((1, 2), (1, 2), False),
            ((0, 1), (1, 2), False), ((2, 0), (1, 2), False), ((0, 2), (2, 1), False), ((0, 2), (1, 3), False),
        ]:
            paper = ("branch", 0, [("branch", 1, [
                ("against", 0, 1), ("branch", 2, [("against", *first), ("against", *second)]),
            ])])
            self.told(expected, branches_show, self.ROW_OF_FOUR, 2, paper)

    def test_a_leaf_that_is_not_against(self):
        for i, j in itertools.product([-TOP, -3, -2, -1, 0, 1, 2, 3, TOP], repeat=2):
            paper = ("branch", 0, [("branch", 1, [("branch", 2, [("against", i, j)])])])
            self.told((i, j) == (0, 1), branches_show, self.ROW, 1, paper)

    def test_a_leaf_ahead_of_the_marks(self):
        self.told(False, branches_show, self.ROW, 1, ("against", 0, 1))
        self.told(False, branches_show, self.ROW, 1, ("branch", 0, [("against", 0, 1)]))
        self.told(False, branches_show, self.ROW, 1, ("branch", 1, [("against", 0, 1)]))
        self.told(False, branches_show, self.ROW, 1, ("branch", 2, [("branch", 1, [("against", 0, 1)])]))

    def test_marks_that_are_not_the_same(self):
        paper = ("branch", 0, [("branch", 1, [("against", 0, 1), ("against", 0, 1)])])
        self.told(False, branches_show, self.ROW, 2, paper)

    def test_a_place_that_is_none_or_was_told(self):
        for place in [0, 3, 4, -1, -2, -3, TOP, -TOP]:
            paper = ("branch", 0, [("branch", place, [("branch", 1, [("against", 0, 1)])])])
            self.told(False, branches_show, self.ROW, 1, paper)
        for place in [1, 2, 3, -1, -3, TOP]:
            paper = ("branch", place, [("branch", 1, [("against", 0, 1)])])
            self.told(False, branches_show, self.ROW, 1, paper)

    def test_a_paper_too_few_or_too_many(self):
        leaf = ("against", 0, 1)
        for papers in [[], [leaf, leaf], [leaf] * 3]:
            self.told(False, branches_show, self.ROW, 1, ("branch", 0, [("branch", 1, papers)]))
        for papers in [[], [self.PAPER[2][0]] * 2]:
            self.told(False, branches_show, self.ROW, 1, ("branch", 0, papers))
        for papers in [[], [("against", 0, 2)], [("against", 0, 2), ("against", 1, 2), ("against", 1, 2)]]:
            paper = ("branch", 0, [("branch", 1, [("against", 0, 1), ("branch", 2, papers)])])
            self.told(False, branches_show, self.ROW_OF_FOUR, 2, paper)

    def test_no_mark_above_the_least_that_no_place_has(self):
        # One paper at first, then two, then three, then four; a fifth one where there are five piles.
        row = [2, 3, 4, 5, 6, 1]
        self.told(True, branches_show, row, 4, branches(row, 4))
        self.told(False, branches_show, row, 5, branches(row, 4))
        self.told(False, branches_show, row, 3, branches(row, 4))
        # The first two places may have one mark: then just two papers are due at the third one.
        row = [9, 2, 3, 4, 5, 1]
        paper = branches(row, 3)
        third = paper[2][0][2][0]
        self.assertEqual((third[1], len(third[2])), (2, 2))
        self.told(True, branches_show, row, 3, paper)
        third[2].append(third[2][1])
        self.told(False, branches_show, row, 3, paper)

    def test_no_piles(self):
        for many in [0, -1, -10 ** 29]:
            self.told(True, branches_show, [7], many, ("branch", 0, []))
            self.told(True, branches_show, self.ROW, many, ("branch", 2, []))
            self.told(False, branches_show, self.ROW, many, ("branch", 3, []))
            self.told(False, branches_show, self.ROW, many, self.PAPER)
            self.told(False, branches_show, self.ROW, many, ("against", 0, 1))

    def test_a_row_of_no_numbers(self):
        for many in [0, 1, 6]:
            self.told(False, branches_show, [], many, ("branch", 0, []))
            self.told(False, branches_show, [], many, ("branch", 0, [("against", 0, 0)]))
            self.told(False, branches_show, [], many, ("against", 0, 1))

    def test_far_more_piles_than_places(self):
        for many in [3, 6, 10 ** 29]:
            self.told(False, branches_show, self.ROW, many, self.PAPER)
            paper = ("branch", 0, [("branch", 1, [("against", 0, 1), ("against", 0, 1)])])
            self.told(False, branches_show, self.ROW, many, paper)

    def test_forty_branches_one_within_another(self):
        for places in [list(range(40)), list(range(39, -1, -1))]:
            paper = ("against", 17, 23)
            for place in reversed(places):
                paper = ("branch", place, [paper])
            self.told(True, branches_show, FORTY, 1, paper)
            self.told(False, branches_show, FORTY, 2, paper)
            self.told(False, branches_show, list(range(40)), 1, paper)
            self.told(False, branches_show, FORTY, 1, ("branch", 5, paper[2]))
            self.told(False, branches_show, FORTY, 1, ("branch", 40, paper[2]))

    def test_forty_numbers_and_two_piles(self):
        paper = ("branch", 3, [("branch", 30, [
            ("against", 3, 30), ("branch", 38, [("against", 3, 38), ("against", 30, 38)]),
        ])])
        self.told(True, branches_show, FORTY, 2, paper)
        self.told(False, branches_show, FORTY, 3, paper)
        self.told(False, branches_show, FORTY[:-1], 2, paper)

    def test_papers_with_another_part(self):
        let = 0
        for row, many in [(self.ROW, 1), (self.ROW_OF_FOUR, 2), ([4, 2, 5, 3, 6, 1], 2), ([2, 3, 4, 5, 1], 3)]:
            paper = branches(row, many)
            for way in ways_into(paper):
                for part in variants(part_at(paper, way), paper):
                    other = with_part(paper, way, part)
                    kept = copy.deepcopy(other)
                    expected = walks_well(row, many, other, [])
                    self.assertIs(branches_show(row, many, other), expected)
                    self.assertEqual(other, kept)
                    let += expected
        self.assertGreater(let, 50)

    def test_two_alike_go_ahead_of_all(self):
        for row in ALIKE:
            for paper in [self.PAPER, ("against", 0, 1), ("branch", TOP, [])]:
                self.refused(NoRow, branches_show, row, 1, paper)
                self.refused(NoRow, branches_show, row, 0, paper)


class MarksOrNever(Checks):

    def test_ordinary_rows(self):
        row = [20, 30, 10]
        self.told(("never", ("branch", 0, [("branch", 1, [("against", 0, 1)])])), marks_or_never, row, 1)
        self.told(("marks", [0, 1, 0]), marks_or_never, row, 2)
        self.told(("marks", [0, 1, 0]), marks_or_never, row, 6)
        self.told(("never", BranchesShow.PAPER_OF_FOUR), marks_or_never, [2, 3, 4, 1], 2)

    def test_of_no_numbers_and_of_one(self):
        for many in range(1, 7):
            self.told(("marks", []), marks_or_never, [], many)
            self.told(("marks", [0]), marks_or_never, [-TOP], many)

    def test_one_pile_too_few_just_as_many_and_one_too_many(self):
        row = [2, 3, 4, 5, 1]
        self.told(("never", branches(row, 3)), marks_or_never, row, 3)
        self.told(("marks", [0, 1, 2, 3, 0]), marks_or_never, row, 4)
        self.told(("marks", [0, 1, 2, 3, 0]), marks_or_never, row, 5)

    def test_the_first_place_that_it_stands_against(self):
        # The third place is against both ahead of it, which have one mark.
        row = [3, 2, 4, 1]
        self.told(
            ("never", ("branch", 0, [("branch", 1, [("branch", 2, [("against", 0, 2)])])])), marks_or_never, row, 1,
        )

    def test_every_row_up_to_six(self):
        for row in rows_up_to(6):
            for many in range(1, 7):
                marks = next(all_good_marks(row, many), None)
                told = marks_or_never(row, many)
                if marks is None:
                    self.exactly(told, ("never", branches(row, many)))
                    self.assertIs(branches_show(row, many, told[1]), True)
                else:
                    self.exactly(told, ("marks", marks))
                    self.assertIs(marks_good(row, many, marks), True)

    def test_twelve_numbers(self):
        self.told(("marks", [0] * 12), marks_or_never, list(range(12, 0, -1)), 1)
        kinds = []
        for row in [TWELVE] + [far_row(12, seed) for seed in range(6)]:
            for many in range(1, 5):
                marks = next(all_good_marks(row, many), None)
                expected = ("never", branches(row, many)) if marks is None else ("marks", marks)
                self.told(expected, marks_or_never, row, many)
                kinds.append(expected[0])
        self.assertGreater(min(kinds.count("never"), kinds.count("marks")), 5)

    def test_twelve_numbers_and_six_piles(self):
        kind, paper = marks_or_never(TWELVE, 6)
        self.assertEqual(kind, "never")
        self.assertIs(branches_show(TWELVE, 6, paper), True)
        self.assertIs(walks_well(TWELVE, 6, paper, []), True)
        self.told(("marks", [0, 1, 2, 3, 4, 5] + [0] * 6), marks_or_never, [6, 7, 8, 9, 10, 11, 5, 4, 3, 2, 1, 0], 6)

    def test_numbers_of_piles_of_which_nothing_is_told(self):
        for many in [0, 7, 8, -1, -6, 60, 10 ** 29, -10 ** 29, TOP, -TOP]:
            for row in [[], [5], [20, 30, 10]]:
                self.refused(NoNumber, marks_or_never, row, many)

    def test_two_alike_go_ahead_of_all(self):
        for row in ALIKE:
            for many in [1, 6, 0, 7, -1, TOP]:
                self.refused(NoRow, marks_or_never, row, many)


class DoingByPiles(Checks):

    ROW = [20, 30, 10, 0]

    def test_ordinary_rows(self):
        self.told(
            [(IN, 0), (IN, 1), (IN, 0), (0, OUT), (0, OUT), (1, OUT)], doing_by_piles, [20, 30, 10], 2, [0, 1, 0],
        )
        self.told(
            [(IN, 0), (IN, 1), (IN, 2), (IN, 1), (1, OUT), (2, OUT), (0, OUT), (1, OUT)],
            doing_by_piles, self.ROW, 3, [0, 1, 2, 1],
        )

    def test_out_as_soon_as_it_can(self):
        self.told([(IN, 0), (0, OUT)] * 3, doing_by_piles, [1, 2, 3], 1, [0, 0, 0])
        self.told([(IN, 0), (IN, 0), (0, OUT), (IN, 0), (0, OUT), (0, OUT)], doing_by_piles, [3, 1, 2], 1, [0, 0, 0])

    def test_of_no_numbers_and_of_one(self):
        for many in [0, 1, 6, 7, 10 ** 29]:
            self.told([], doing_by_piles, [], many, [])
        for pile in range(9):
            self.told([(IN, pile), (pile, OUT)], doing_by_piles, [TOP], 9, [pile])

    def test_some_piles_unused(self):
        self.told([(IN, 5), (IN, 2), (2, OUT), (5, OUT)], doing_by_piles, [TOP, -TOP], 6, [5, 2])

    def test_more_than_six_piles(self):
        self.told([(IN, 7), (IN, 39), (39, OUT), (7, OUT)], doing_by_piles, [TOP, -TOP], 40, [7, 39])
        far = 10 ** 30 - 2
        self.told([(IN, far), (IN, 0), (0, OUT), (far, OUT)], doing_by_piles, [2, 1], far + 1, [far, 0])

    def test_every_row_up_to_four_and_all_lists(self):
        for row in rows_up_to(4):
            for many in range(4):
                good = list(all_good_marks(row, many))
                for marks in itertools.product(range(many), repeat=len(row)):
                    self.check(row, many, list(marks), list(marks) in good)

    def check(self, row, many, marks, good):
        if not good:
            self.refused(NoDoing, doing_by_piles, row, many, marks)
        else:
            doing = doing_by_piles(row, many, marks)
            self.exactly(doing, doing_by("pile", row, many, marks))
            self.assertIs(brings_out(piles_net(many), row, doing), True)

    def test_forty_numbers(self):
        marks = list(range(39)) + [38]
        expected = [(IN, mark) for mark in marks] + [(mark, OUT) for mark in [38, *range(39)]]
        self.told(expected, doing_by_piles, FORTY, 39, marks)
        self.assertIs(brings_out(side_by_side(["pile"] * 39), FORTY, expected), True)
        for seed in range(3):
            row = far_row(40, seed)
            marks = []
            for place in range(40):
                taken = [marks[i] for i, j in against(row) if j == place]
                marks.append(min(mark for mark in range(40) if mark not in taken))
            self.told(doing_by("pile", row, max(marks) + 1, marks), doing_by_piles, row, max(marks) + 1, marks)
            self.refused(NoMark, doing_by_piles, row, max(marks), marks)

    def test_marks_that_are_not_good(self):
        for marks in [[0, 0, 1, 2], [1, 1, 0, 0], [0, 0, 0, 0], [2, 2, 2, 2]]:
            self.refused(NoDoing, doing_by_piles, self.ROW, 3, marks)
        self.refused(NoDoing, doing_by_piles, FORTY, 39, list(range(38)) + [0, 0])
        self.refused(NoDoing, doing_by_piles, [TOP - 1, TOP, -TOP], 8, [7, 7, 0])

    def test_things_that_are_no_marks(self):
        for marks in NO_MARKS:
            self.refused(NoMark, doing_by_piles, self.ROW, 3, marks)
        for marks in [[0], [True], (), None, "", {}, 0]:
            self.refused(NoMark, doing_by_piles, [], 3, marks)
        for mark in [0, 1, -1, TOP]:
            self.refused(NoMark, doing_by_piles, [5], 0, [mark])
        self.refused(NoMark, doing_by_piles, [5], 40, [40])
        self.refused(NoMark, doing_by_piles, [5], 40, [True])

    def test_no_marks_go_ahead_of_marks_that_are_not_good(self):
        for marks in [[0, 0, 0, 3], [0, 0, 0], [0, 0, 0, 0, 0], [0, 0, 0, -1], [0, 0, 0, False], (0, 0, 0, 0)]:
            self.refused(NoMark, doing_by_piles, self.ROW, 3, marks)

    def test_two_alike_go_ahead_of_all(self):
        for row in ALIKE:
            for marks in [[0] * len(row), list(range(len(row))), [], [7] * len(row), [True] * len(row), None, ()]:
                self.refused(NoRow, doing_by_piles, row, 6, marks)


if __name__ == "__main__":
    unittest.main()
