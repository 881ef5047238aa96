"""Point 9: look. (What is no way: test_list_of_a_way.)"""

import unittest

from tests.helper import ask, last, unchanged_by

# Four cells in a row, one crevasse of two cells: none, 01, 12 or 23.
ROW = ("field", 4, 1, 2, 2, 1)


class Look(unittest.TestCase):
    def test_clear_in_some(self):
        self.assertEqual(last(ROW, ("look", [3])), [3, 1, 0])
        self.assertEqual(last(ROW, ("look", [1])), [2, 1, 0])
        self.assertEqual(last(ROW, ("look", [0, 1])), [2, 2, 0])
        self.assertEqual(last(ROW, ("look", [3, 2, 1, 0])), [1, 2, 0])

    def test_clear_in_all(self):
        self.assertEqual(last(ROW, ("found", 0, 1), ("look", [2, 3])), [1, 0, 1])
        self.assertEqual(last(ROW, ("found", 1, 1), ("look", [3])), [2, 0, 1])
        self.assertEqual(last(("field", 3, 3, 1, 4, 0), ("look", [0, 4, 8])), [1, 0, 1])

    def test_clear_in_none(self):
        self.assertEqual(last(ROW, ("found", 0, 1), ("look", [0, 1, 2])), [0, 2, 1])
        self.assertEqual(last(ROW, ("found", 1, 1), ("look", [2, 1])), [0, 2, 1])
        # In 01 it's one cell, in 12 another one.
        self.assertEqual(last(ROW, ("found", 1, 1), ("look", [0, 1, 2])), [0, 2, 1])

    def test_clear_in_none_though_no_cell_of_it_is_surely_a_hole(self):
        # Of two by two cells, one crevasse of two: with 1 a hole it's 01 or 13.
        before = [("field", 2, 2, 2, 2, 1), ("found", 1, 1)]
        self.assertEqual(last(*before, ("look", [0])), [1, 1, 0])
        self.assertEqual(last(*before, ("look", [0, 3])), [0, 1, 1])

    def test_together_in_one_of_those_possible(self):
        # Each of the three may be a hole, but only two of them at once.
        self.assertEqual(last(("field", 3, 1, 1, 1, 2), ("look", [0, 1, 2])), [1, 2, 0])
        self.assertEqual(last(("field", 3, 1, 1, 1, 1), ("look", [0, 1, 2])), [1, 1, 0])

    def test_a_cell_twice_is_counted_twice(self):
        self.assertEqual(last(ROW, ("look", [0, 1, 0])), [2, 3, 0])
        self.assertEqual(last(ROW, ("look", [1, 0, 1, 2, 1])), [1, 4, 0])
        self.assertEqual(last(("field", 2, 1, 2, 2, 1), ("look", [0, 1] * 6)), [1, 12, 0])

    def test_more_possible_than_others_take(self):
        greatest = ("field", 6, 6, 1, 4, 2)
        # Two crevasses of at most four cells each: the whole row of six, or two rows of four.
        self.assertEqual(last(greatest, ("look", [0, 1, 2, 3, 4, 5, 11]))[1:], [6, 0])
        self.assertEqual(last(greatest, ("look", [0, 1, 2, 3, 9, 8, 7, 6, 12]))[1:], [8, 0])
        told = ask(greatest, ("cell", 7), ("look", [7]))
        self.assertEqual(told[2], [13254 - told[1][1], 1, 0])

    def test_nothing_is_changed(self):
        self.assertEqual(unchanged_by([ROW, ("found", 3, 0)], ("look", [1])), [1, 1, 0])


if __name__ == "__main__":
    unittest.main()
