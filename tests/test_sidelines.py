"""Points 30 to 33: stations side by side, falling pieces, each number's line, and the doing by lines."""

import itertools
import random
import unittest

from pilenets.doings import brings_out
from pilenets.errors import NoDoing, NoMark, NoNumber, NoRow
from pilenets.sidelines import doing_by_lines, falling_piece, line_numbers, lines_net, piles_net
from tests.by_definition import (
    ALIKE, IN, NO_MARKS, OUT, TOP, Checks, doing_by, pieces_that_fall, rows_up_to, side_by_side,
)


class Nets(Checks):

    def test_each_number_of_stations(self):
        for many in range(7):
            self.told(side_by_side(["line"] * many), lines_net, many)
            self.told(side_by_side(["pile"] * many), piles_net, many)

    def test_as_the_document_tells_nets(self):
        self.told(([], []), lines_net, 0)
        self.told(([], []), piles_net, 0)
        self.told((["line"], [(-1, 0), (0, -2)]), lines_net, 1)
        self.told((["pile", "pile"], [(-1, 0), (-1, 1), (0, -2), (1, -2)]), piles_net, 2)

    def test_other_numbers(self):
        for many in [7, 8, 60, -1, -2, -6, 10 ** 29, -10 ** 29, 10 ** 30 - 1, TOP, -TOP]:
            self.refused(NoNumber, lines_net, many)
            self.refused(NoNumber, piles_net, many)


class FallingPiece(Checks):

    def test_ordinary_rows(self):
        self.told([0, 1, 3], falling_piece, [30, 10, 20, 0])
        self.told([1, 2], falling_piece, [1, 3, 2])
        self.told([0, 1, 2], falling_piece, [3, 2, 1])

    def test_of_no_numbers_and_of_one(self):
        self.told([], falling_piece, [])
        for number in [0, 7, -7, TOP, -TOP]:
            self.told([0], falling_piece, [number])

    def test_of_a_rising_row_the_first_place(self):
        self.told([0], falling_piece, [1, 2, 3])
        self.told([0], falling_piece, list(range(300)))

    def test_numbers_far_apart(self):
        self.told([0, 1, 3], falling_piece, [TOP, 0, TOP - 1, -TOP])
        self.told([1, 3], falling_piece, [-TOP, 10 ** 58, 10 ** 58 + 1, 10 ** 58 - 1])

    def test_the_first_of_several(self):
        self.told([0, 1], falling_piece, [2, 1, 4, 3])
        self.told([0, 2], falling_piece, [2, 3, 1])
        self.told([0, 2, 3], falling_piece, [2, 3, 1, 0])
        self.told([0, 1, 3], falling_piece, [5, 2, 4, 1, 3])
        self.told([0, 2, 3, 4], falling_piece, [5, 2, 4, 3, 1])
        self.told([1, 2, 4], falling_piece, [0, 9, 7, 8, 5, 6])

    def test_every_row_up_to_six(self):
        for row in rows_up_to(6):
            falling = pieces_that_fall(row)
            longest = max(map(len, falling))
            self.exactly(falling_piece(row), next(places for places in falling if len(places) == longest))

    def first_by_table(self, row):
        """The first longest falling piece, by the best list from each place on."""
        best = {}
        for place in reversed(range(len(row))):
            behind = [best[later] for later in best if row[later] < row[place]]
            best[place] = [place] + min(behind, key=lambda places: (-len(places), places), default=[])
        return min(best.values(), key=lambda places: (-len(places), places))

    def test_three_hundred_numbers(self):
        self.told(list(range(300)), falling_piece, list(range(300, 0, -1)))
        # Thirty rising runs of ten, each below the one ahead of it: the first number of each.
        self.told(list(range(0, 300, 10)), falling_piece, [10 * a + b for a in range(29, -1, -1) for b in range(10)])
        chance = random.Random(1)
        for _ in range(3):
            row = [chance.randint(-TOP, TOP) for _ in range(300)]
            self.told(self.first_by_table(row), falling_piece, row)

    def test_two_alike(self):
        for row in ALIKE:
            self.refused(NoRow, falling_piece, row)


def lines_by_definition(row):
    """Each number's line, with all numbers of each line kept."""
    lines = []
    told = []
    for number in row:
        fitting = [line for line in range(len(lines)) if lines[line][-1] < number]
        if not fitting:
            fitting = [len(lines)]
            lines.append([])
        told.append(max(fitting, key=lambda line: lines[line][-1:]))
        lines[told[-1]].append(number)
    return told


class LineNumbers(Checks):

    def test_ordinary_rows(self):
        self.told([0, 1, 1, 2], line_numbers, [30, 10, 20, 0])
        self.told([0, 0, 0], line_numbers, [1, 2, 3])
        self.told([0, 1, 2], line_numbers, [3, 2, 1])

    def test_of_no_numbers_and_of_one(self):
        self.told([], line_numbers, [])
        for number in [0, 7, -7, TOP, -TOP]:
            self.told([0], line_numbers, [number])

    def test_to_the_line_of_the_greatest_lesser_number(self):
        self.told([0, 1, 1, 0], line_numbers, [5, 2, 3, 9])
        self.told([0, 1, 2, 0, 1, 2], line_numbers, [5, 3, 1, 6, 4, 2])
        self.told([0, 1, 2, 2, 1, 0], line_numbers, [5, 3, 1, 2, 4, 6])

    def test_numbers_far_apart(self):
        self.told([0, 1, 0, 2], line_numbers, [TOP - 1, 0, TOP, -TOP])
        self.told([0, 0, 0, 1], line_numbers, [-TOP, 10 ** 58, 10 ** 58 + 1, 10 ** 58 - 1])

    def test_every_row_up_to_six(self):
        for row in rows_up_to(6):
            self.exactly(line_numbers(row), lines_by_definition(row))

    def test_as_many_lines_as_a_longest_falling_piece_has_places(self):
        for row in rows_up_to(6):
            lines = line_numbers(row)
            self.assertEqual(sorted(set(lines)), list(range(len(falling_piece(row)))))
            for line in lines:
                numbers = [number for number, other in zip(row, lines) if other == line]
                self.assertEqual(numbers, sorted(numbers))

    def test_three_hundred_numbers(self):
        self.told(list(range(300)), line_numbers, list(range(300, 0, -1)))
        self.told([0] * 300, line_numbers, list(range(300)))
        chance = random.Random(2)
        for _ in range(3):
            row = [chance.randint(-TOP, TOP) for _ in range(300)]
            lines = lines_by_definition(row)
            self.told(lines, line_numbers, row)
            self.assertEqual(max(lines) + 1, len(falling_piece(row)))

    def test_two_alike(self):
        for row in ALIKE:
            self.refused(NoRow, line_numbers, row)


class DoingByLines(Checks):

    ROW = [30, 10, 20, 0]

    def test_ordinary_rows(self):
        self.told(
            [(IN, 0), (IN, 1), (IN, 1), (IN, 2), (2, OUT), (1, OUT), (1, OUT), (0, OUT)],
            doing_by_lines, self.ROW, 3, [0, 1, 1, 2],
        )
        self.told([(IN, 0), (0, OUT), (IN, 1), (IN, 0), (0, OUT), (1, OUT)], doing_by_lines, [1, 3, 2], 2, [0, 1, 0])

    def test_out_as_soon_as_it_can(self):
        self.told([(IN, 0), (0, OUT)] * 3, doing_by_lines, [1, 2, 3], 1, [0, 0, 0])
        self.told([(IN, 1), (1, OUT), (IN, 0), (0, OUT), (IN, 1), (1, OUT)], doing_by_lines, [1, 2, 3], 2, [1, 0, 1])

    def test_of_no_numbers_and_of_one(self):
        for many in range(7):
            self.told([], doing_by_lines, [], many, [])
        for line in range(6):
            self.told([(IN, line), (line, OUT)], doing_by_lines, [-TOP], 6, [line])

    def test_some_lines_unused(self):
        self.told([(IN, 5), (IN, 2), (2, OUT), (5, OUT)], doing_by_lines, [TOP, -TOP], 6, [5, 2])

    def test_every_row_up_to_four_and_all_lists(self):
        for row in rows_up_to(4):
            for many in range(4):
                for lines in itertools.product(range(many), repeat=len(row)):
                    self.check(row, many, list(lines))

    def check(self, row, many, lines):
        pairs = itertools.combinations(range(len(row)), 2)
        if any(lines[i] == lines[j] and row[i] > row[j] for i, j in pairs):
            self.refused(NoDoing, doing_by_lines, row, many, lines)
        else:
            doing = doing_by_lines(row, many, lines)
            self.exactly(doing, doing_by("line", row, many, lines))
            self.assertIs(brings_out(lines_net(many), row, doing), True)

    def test_rows_of_twelve(self):
        chance = random.Random(3)
        checked = 0
        while checked < 20:
            row = [chance.randint(-TOP, TOP) for _ in range(12)]
            if len(falling_piece(row)) <= 6:
                names = chance.sample(range(6), 6)
                lines = [names[line] for line in line_numbers(row)]
                self.told(doing_by("line", row, 6, lines), doing_by_lines, row, 6, lines)
                self.assertIs(brings_out(lines_net(6), row, doing_by_lines(row, 6, lines)), True)
                checked += 1

    def test_numbers_that_do_not_rise(self):
        for lines in [[0, 0, 1, 2], [0, 1, 1, 1], [0, 1, 2, 0], [2, 1, 0, 2], [0, 0, 0, 0]]:
            self.refused(NoDoing, doing_by_lines, self.ROW, 3, lines)
        self.refused(NoDoing, doing_by_lines, [5, 9, 6], 1, [0, 0, 0])
        self.refused(NoDoing, doing_by_lines, [5, 9, 1], 2, [1, 0, 1])

    def test_things_that_are_no_lines(self):
        for lines in NO_MARKS:
            self.refused(NoMark, doing_by_lines, self.ROW, 3, lines)
        for lines in [[0], [True], (), None, "", {}, 0]:
            self.refused(NoMark, doing_by_lines, [], 3, lines)
        for line in [0, 1, -1, TOP]:
            self.refused(NoMark, doing_by_lines, [5], 0, [line])

    def test_no_lines_go_ahead_of_numbers_that_do_not_rise(self):
        for lines in [[0, 0, 0, 3], [0, 0, 0], [0, 0, 0, 0, 0], [0, 0, 0, -1], [0, 0, 0, False], (0, 0, 0, 0)]:
            self.refused(NoMark, doing_by_lines, self.ROW, 3, lines)

    def test_two_alike_go_ahead_of_all(self):
        for row in ALIKE:
            for lines in [[0] * len(row), list(range(len(row))), [], [7] * len(row), [True] * len(row), None, ()]:
                self.refused(NoRow, doing_by_lines, row, 6, lines)


if __name__ == "__main__":
    unittest.main()
