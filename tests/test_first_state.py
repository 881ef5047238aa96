"""The state before the first call: one cell, least and most 1, many 0."""

import unittest

from tests.helper import ask


class BeforeTheFirstCall(unittest.TestCase):
    def test_what_is_told_of_it(self):
        self.assertEqual(ask(("count",)), [[1, 1]])
        self.assertEqual(ask(("map",)), [[1, 0]])
        self.assertEqual(ask(("world", 0)), [[0]])
        self.assertEqual(ask(("world", 1)), [[-4]])
        self.assertEqual(ask(("cell", 0)), [[0, 0, 1]])
        self.assertEqual(ask(("way", 0, 0)), [[0]])
        self.assertEqual(ask(("finds",)), [[0]])
        self.assertEqual(ask(("form",)), [[1, 1, 1, 1, 0]])
        self.assertEqual(ask(("split",)), [[0, 1]])
        self.assertEqual(ask(("suppose", 0, 0), ("suppose", 0, 1)), [[1, 1], [0, 0]])
        self.assertEqual(ask(("look", [0]), ("cover", [0]), ("plan", [0])), [[1, 0, 1], [0], [0]])
        self.assertEqual(ask(("rope", 1, 1, 4, [0]), ("fewest", 1, 4, [0]), ("spacing", 1, 4, [0])), [[1]] * 3)

    def test_it_has_one_cell(self):
        self.assertEqual(ask(("cell", 1), ("way", 0, 1), ("way", 1, 0)), [[-1]] * 3)
        self.assertEqual(ask(("found", 1, 0), ("undo", 1), ("suppose", 1, 0), ("look", [1])), [[-1]] * 4)

    def test_no_crevasse_can_be_there(self):
        self.assertEqual(ask(("found", 0, 1), ("finds",)), [[-6], [0]])
        self.assertEqual(ask(("found", 0, 0), ("finds",)), [[1], [2, 0, 0]])

    def test_nothing_was_found(self):
        self.assertEqual(ask(("undo", 0)), [[-4]])

    def test_a_refused_field_leaves_it(self):
        self.assertEqual(ask(("field", 7, 1, 1, 1, 1), ("count",), ("map",)), [[-1], [1, 1], [1, 0]])


if __name__ == "__main__":
    unittest.main()
