"""The interface: each name is defined in its own file, with its arguments."""

import importlib
import inspect
import unittest

FUNCTIONS = [
    ("pilenets.nets", "net_of", ["stations", "ways"]),
    ("pilenets.lists", "put_to_order", ["row"]),
    ("pilenets.lists", "turned_about", ["row"]),
    ("pilenets.lists", "undone_row", ["row"]),
]


class Interface(unittest.TestCase):

    def test_each_function_stands_in_its_file_with_its_arguments(self):
        for file, name, arguments in FUNCTIONS:
            function = getattr(importlib.import_module(file), name)
            self.assertEqual(function.__module__, file)
            self.assertEqual(list(inspect.signature(function).parameters), arguments)


if __name__ == "__main__":
    unittest.main()
