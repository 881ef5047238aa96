"""Point 16: suppose."""

import unittest

from tests.helper import HUGE, last, unchanged_by

# Four cells in a row, one crevasse of two cells: none, 01, 12 or 23.
ROW = ("field", 4, 1, 2, 2, 1)


class Suppose(unittest.TestCase):
    def suppose(self, *before):
        return last(*before[:-2], ("suppose", before[-2], before[-1]))

    def test_both_values(self):
        self.assertEqual(self.suppose(ROW, 0, 1), [1, 2])
        self.assertEqual(self.suppose(ROW, 0, 0), [3, 1])
        self.assertEqual(self.suppose(ROW, 1, 1), [2, 1])
        self.assertEqual(self.suppose(ROW, 1, 0), [2, 2])
        self.assertEqual(self.suppose(ROW, 3, 1), [1, 2])

    def test_no_cell_surely_firm(self):
        self.assertEqual(self.suppose(("field", 3, 1, 1, 3, 1), 1, 1), [4, 0])

    def test_those_that_are_surely_firm_already_are_counted(self):
        self.assertEqual(self.suppose(ROW, ("found", 0, 0), 3, 0), [2, 2])
        self.assertEqual(self.suppose(("field", 3, 2, 3, 3, 1), ("found", 4, 0), 1, 0), [1, 6])
        self.assertEqual(self.suppose(("field", 6, 6, 1, 4, 0), 8, 0), [1, 36])

    def test_none_possible(self):
        self.assertEqual(self.suppose(ROW, ("found", 0, 1), 3, 1), [0, 0])
        self.assertEqual(self.suppose(ROW, ("found", 0, 1), 1, 0), [0, 0])
        self.assertEqual(self.suppose(0, 1), [0, 0])

    def test_found_already(self):
        self.assertEqual(self.suppose(ROW, ("found", 0, 1), 0, 1), [1, 2])
        self.assertEqual(self.suppose(ROW, ("found", 0, 1), 0, 0), [0, 0])
        self.assertEqual(self.suppose(ROW, ("found", 2, 0), 2, 0), [2, 2])
        self.assertEqual(self.suppose(ROW, ("found", 2, 0), 2, 1), [0, 0])

    def test_refused(self):
        before = [ROW, ("found", 2, 0)]
        for cell in (-1, 4, 5, HUGE, -HUGE):
            for v in (0, 1):
                self.assertEqual(unchanged_by(before, ("suppose", cell, v)), [-1], cell)
        for v in (-1, 2, HUGE, -HUGE):
            for cell in (0, 2):
                self.assertEqual(unchanged_by(before, ("suppose", cell, v)), [-1], v)

    def test_nothing_is_changed(self):
        before = [ROW, ("found", 3, 0)]
        for cell in range(4):
            for v in (0, 1):
                self.assertGreaterEqual(unchanged_by(before, ("suppose", cell, v))[0], 0)
        self.assertEqual(last(ROW, ("suppose", 1, 1), ("found", 1, 0), ("count",)), [2, 1])


if __name__ == "__main__":
    unittest.main()
