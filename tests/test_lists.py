"""Points 7 and 8, and point 2 of rows: put to order, turned about, undone."""

import itertools
import unittest

from pilenets.errors import NoRow
from pilenets.lists import put_to_order, turned_about, undone_row

# Three hundred unlike numbers of sixty figures, half of them below 0, in no order.
GREAT = [(-1) ** k * (10 ** 59 + (k * 7919) % 300) for k in range(300)]


def ordered_rows(most):
    """All rows put to their order of at most so many numbers."""
    for many in range(most + 1):
        for row in itertools.permutations(range(many)):
            yield list(row)


class PutToOrder(unittest.TestCase):

    def test_ordinary_rows(self):
        self.assertEqual(put_to_order([30, 10, 20]), [2, 0, 1])
        self.assertEqual(put_to_order([5, 6, 7, 8]), [0, 1, 2, 3])
        self.assertEqual(put_to_order([4, 3, 2, 1]), [3, 2, 1, 0])
        self.assertEqual(put_to_order([7, 100, 8, 0, 9]), [1, 4, 2, 0, 3])

    def test_a_row_of_no_numbers(self):
        self.assertEqual(put_to_order([]), [])

    def test_one_number_alone(self):
        for number in [0, 1, -1, 77, 10 ** 59, -(10 ** 60 - 1)]:
            self.assertEqual(put_to_order([number]), [0])

    def test_numbers_below_0(self):
        self.assertEqual(put_to_order([-1, -2, -3]), [2, 1, 0])
        self.assertEqual(put_to_order([0, -5, 5, -6]), [2, 1, 3, 0])
        self.assertEqual(put_to_order([-1, 1]), [0, 1])

    def test_numbers_of_sixty_figures(self):
        top = 10 ** 60 - 1
        self.assertEqual(put_to_order([top, top - 1, -top, 1 - top]), [3, 2, 0, 1])

    def test_three_hundred_numbers_by_how_many_are_less(self):
        self.assertEqual(len(set(GREAT)), 300)
        told = put_to_order(GREAT)
        self.assertEqual(told, [sum(other < number for other in GREAT) for number in GREAT])
        self.assertEqual(sorted(told), list(range(300)))

    def test_rows_put_to_their_order_stay_alike(self):
        for row in ordered_rows(6):
            self.assertEqual(put_to_order(row), row)
            self.assertEqual(put_to_order([9 * number - 20 for number in row]), row)

    def test_numbers_told_are_whole_numbers_in_a_list(self):
        told = put_to_order([8, -8])
        self.assertIs(told.__class__, list)
        self.assertEqual([number.__class__ for number in told], [int, int])

    def test_two_alike(self):
        for row in [[1, 1], [0, 1, 0], [-4, 3, -4], [0, 1, 2, 2], [10 ** 59, 2, 10 ** 59], GREAT + GREAT[:1],
                    [5, 5, 5]]:
            with self.assertRaises(NoRow) as caught:
                put_to_order(row)
            self.assertIs(caught.exception.__class__, NoRow)


class TurnedAbout(unittest.TestCase):

    def test_a_row_is_read_from_its_right(self):
        self.assertEqual(turned_about([30, 10, 20]), [20, 10, 30])
        self.assertEqual(turned_about([0, 1, 2, 3]), [3, 2, 1, 0])

    def test_its_numbers_stay_what_they_are(self):
        self.assertEqual(turned_about([-7, 10 ** 59, 4]), [4, 10 ** 59, -7])

    def test_no_numbers_and_one_alone(self):
        self.assertEqual(turned_about([]), [])
        self.assertEqual(turned_about([-3]), [-3])

    def test_three_hundred_numbers(self):
        told = turned_about(GREAT)
        self.assertIs(told.__class__, list)
        self.assertEqual(told, [GREAT[299 - place] for place in range(300)])

    def test_twice_turned_about_is_the_row(self):
        for row in ordered_rows(5):
            self.assertEqual(turned_about(turned_about(row)), row)

    def test_two_alike(self):
        for row in [[1, 1], [2, 0, 2], [-1, 5, -1], GREAT + GREAT[-1:]]:
            with self.assertRaises(NoRow) as caught:
                turned_about(row)
            self.assertIs(caught.exception.__class__, NoRow)


class Undone(unittest.TestCase):

    def test_ordinary_rows(self):
        self.assertEqual(undone_row([2, 0, 1]), [1, 2, 0])
        self.assertEqual(undone_row([1, 0, 3, 2]), [1, 0, 3, 2])
        self.assertEqual(undone_row([3, 0, 1, 2]), [1, 2, 3, 0])

    def test_no_numbers_and_one_alone(self):
        self.assertEqual(undone_row([]), [])
        self.assertEqual(undone_row([0]), [0])

    def test_each_place_tells_where_that_number_stands(self):
        for row in ordered_rows(6):
            told = undone_row(row)
            self.assertIs(told.__class__, list)
            self.assertEqual(told, [row.index(number) for number in range(len(row))])
            self.assertEqual(undone_row(told), row)

    def test_three_hundred_numbers(self):
        row = put_to_order(GREAT)
        self.assertEqual(undone_row(row), [row.index(number) for number in range(300)])

    def refused(self, row):
        with self.assertRaises(NoRow) as caught:
            undone_row(row)
        self.assertIs(caught.exception.__class__, NoRow)

    def test_two_alike(self):
        for row in [[0, 0], [1, 1], [0, 1, 1], [2, 2, 0], [-1, -1], [0, 0, 2]]:
            self.refused(row)

    def test_rows_not_put_to_their_order(self):
        for row in [[1], [-1], [1, 2], [2, 0], [0, -1], [-1, -2], [3, 1, 0], [0, 1, 3], [10 ** 59],
                    [0, 10 ** 59], GREAT]:
            self.refused(row)

    def test_every_short_list_of_small_numbers(self):
        for many in range(4):
            for numbers in itertools.product(range(-2, 5), repeat=many):
                row = list(numbers)
                if sorted(row) == list(range(many)):
                    self.assertEqual(undone_row(row), [row.index(n) for n in range(many)])
                else:
                    self.refused(row)


class RowsOfTheAskersOwn(unittest.TestCase):

    ASKED = [put_to_order, turned_about, undone_row]

    def test_what_is_handed_in_stays_as_it_was(self):
        for ask in self.ASKED:
            for row in ordered_rows(4):
                kept = list(row)
                ask(row)
                self.assertEqual(row, kept)

    def test_what_is_refused_stays_as_it_was(self):
        for ask in self.ASKED:
            row = [3, 1, 3, 0]
            with self.assertRaises(NoRow):
                ask(row)
            self.assertEqual(row, [3, 1, 3, 0])

    def test_a_told_list_is_another_one_than_the_one_handed_in(self):
        for ask in self.ASKED:
            for row in [[], [0], [0, 1, 2], [1, 0]]:
                kept = list(row)
                first = list(ask(row))
                told = ask(row)
                told.append(9)
                told[0] = 8
                self.assertEqual(row, kept)
                self.assertEqual(ask(row), first)

    def test_a_list_handed_in_and_changed_later_changes_nothing_told(self):
        for ask in self.ASKED:
            row = [0, 2, 1]
            told = ask(row)
            kept = list(told)
            row.reverse()
            row.append(3)
            self.assertEqual(told, kept)

    def test_two_told_lists_are_not_one(self):
        for ask in self.ASKED:
            first = ask([])
            first.append(1)
            self.assertEqual(ask([]), [])


if __name__ == "__main__":
    unittest.main()
