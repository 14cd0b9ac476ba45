"""The interface: each name is defined in its own file, with its arguments."""

import importlib
import inspect
import unittest

from pilenets.desk import Desk

FUNCTIONS = [
    ("pilenets.nets", "net_of", ["stations", "ways"]),
    ("pilenets.lists", "put_to_order", ["row"]),
    ("pilenets.lists", "turned_about", ["row"]),
    ("pilenets.lists", "undone_row", ["row"]),
    ("pilenets.doings", "standing_behind", ["net", "row", "standing", "move"]),
    ("pilenets.doings", "moves_in", ["net", "row", "standing"]),
    ("pilenets.doings", "first_standing", ["net"]),
    ("pilenets.doings", "brings_out", ["net", "row", "doing"]),
    ("pilenets.found", "way_out", ["net", "row"]),
    ("pilenets.found", "how_many_doings", ["net", "row"]),
    ("pilenets.found", "comes_out", ["net", "row"]),
    ("pilenets.never", "never_shows", ["net", "row", "paper"]),
    ("pilenets.never", "all_standings", ["net", "row"]),
    ("pilenets.pieces", "piece_at", ["row", "places"]),
    ("pilenets.pieces", "holds_piece", ["row", "other"]),
    ("pilenets.pieces", "bad_piece", ["net", "row"]),
    ("pilenets.pieces", "least_bad", ["net", "most"]),
    ("pilenets.pieces", "doing_kept", ["net", "row", "doing", "places"]),
    ("pilenets.sidelines", "lines_net", ["many"]),
    ("pilenets.sidelines", "piles_net", ["many"]),
    ("pilenets.sidelines", "falling_piece", ["row"]),
    ("pilenets.sidelines", "line_numbers", ["row"]),
    ("pilenets.sidelines", "doing_by_lines", ["row", "many", "lines"]),
    ("pilenets.sidepiles", "against_pairs", ["row"]),
    ("pilenets.sidepiles", "marks_good", ["row", "many", "marks"]),
    ("pilenets.sidepiles", "fewest_piles", ["row"]),
    ("pilenets.sidepiles", "branches_show", ["row", "many", "paper"]),
    ("pilenets.sidepiles", "marks_or_never", ["row", "many"]),
    ("pilenets.sidepiles", "doing_by_piles", ["row", "many", "marks"]),
    ("pilenets.counts", "how_many_rows", ["net", "length"]),
    ("pilenets.counts", "rows_kept_in", ["net", "length"]),
    ("pilenets.counts", "shapes_of", ["length"]),
    ("pilenets.counts", "how_many_fillings", ["shape"]),
    ("pilenets.counts", "rows_by_shapes", ["length", "many"]),
    ("pilenets.counts", "rows_by_sums", ["length"]),
    ("pilenets.joined", "nets_beside", ["one", "other"]),
    ("pilenets.joined", "nets_behind", ["one", "other"]),
    ("pilenets.joined", "doing_beside", ["one", "other", "row", "doing", "first"]),
    ("pilenets.alike", "first_parting", ["one", "other", "most"]),
    ("pilenets.texts", "net_text", ["net"]),
    ("pilenets.texts", "row_text", ["row"]),
    ("pilenets.texts", "doing_text", ["doing"]),
    ("pilenets.texts", "read_net", ["text"]),
    ("pilenets.texts", "read_row", ["text"]),
    ("pilenets.texts", "read_doing", ["text"]),
]


class Interface(unittest.TestCase):

    def test_each_function_stands_in_its_file_with_its_arguments(self):
        for file, name, arguments in FUNCTIONS:
            function = getattr(importlib.import_module(file), name)
            self.assertEqual(function.__module__, file)
            self.assertEqual(list(inspect.signature(function).parameters), arguments)

    def test_the_desk_stands_in_its_file_with_its_method(self):
        self.assertEqual(Desk.__module__, "pilenets.desk")
        self.assertEqual(list(inspect.signature(Desk).parameters), [])
        self.assertEqual(list(inspect.signature(Desk.__dict__["say"]).parameters), ["self", "row"])


if __name__ == "__main__":
    unittest.main()
