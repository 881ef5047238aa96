"""Point 15: split."""

import unittest

from tests.helper import last, unchanged_by

# Four cells in a row, one crevasse of two cells: none, 01, 12 or 23.
ROW = ("field", 4, 1, 2, 2, 1)


class Split(unittest.TestCase):
    def split(self, *before):
        return last(*before, ("split",))

    def test_the_greater_number_is_least(self):
        self.assertEqual(self.split(ROW), [1, 2])
        # None, 0, 1, 01, 2, 12 or 012: 1 is a hole in four of seven, 0 and 2 in three.
        self.assertEqual(self.split(("field", 3, 1, 1, 3, 1)), [0, 4])
        # None, 01, 012, 12: 1 is a hole in three of four, 0 in two.
        self.assertEqual(self.split(("field", 3, 1, 2, 3, 1)), [0, 2])

    def test_firm_may_be_the_greater_one(self):
        self.assertEqual(self.split(("field", 4, 1, 1, 1, 1)), [0, 4])
        self.assertEqual(self.split(("field", 6, 6, 1, 1, 1)), [0, 36])

    def test_a_hole_may_be_the_greater_one(self):
        # 01, 12 or 012.
        self.assertEqual(self.split(("field", 3, 1, 2, 3, 1), ("found", 1, 1)), [0, 2])
        self.assertEqual(self.split(("field", 3, 1, 2, 3, 1), ("found", 1, 1), ("found", 0, 1)), [2, 1])

    def test_the_least_of_several(self):
        self.assertEqual(self.split(("field", 4, 1, 1, 1, 1), ("found", 0, 0), ("found", 2, 0)), [1, 2])
        self.assertEqual(self.split(("field", 2, 2, 1, 1, 2)), [0, 7])

    def test_found_cells_are_left_out(self):
        self.assertEqual(self.split(ROW, ("found", 1, 0)), [2, 1])
        self.assertEqual(self.split(ROW, ("found", 1, 1)), [0, 1])
        # Nothing is to be learned any more, but 1 wasn't found yet.
        self.assertEqual(self.split(ROW, ("found", 0, 1)), [1, 1])
        self.assertEqual(self.split(ROW, ("found", 0, 1), ("found", 1, 1), ("found", 2, 0)), [3, 1])

    def test_all_cells_found(self):
        every = [("found", cell, 0) for cell in range(4)]
        self.assertEqual(unchanged_by([ROW] + every, ("split",)), [-9])
        self.assertEqual(self.split(ROW, *every, ("undo", 2)), [2, 1])
        self.assertEqual(self.split(("found", 0, 0)), [-9])

    def test_ahead_of_the_first_field(self):
        self.assertEqual(self.split(), [0, 1])

    def test_again_after_a_change(self):
        told = last(ROW, ("split",), ("found", 1, 0), ("split",), ("undo", 1), ("split",))
        self.assertEqual(told, [1, 2])
        self.assertEqual(last(ROW, ("split",), ("found", 1, 0), ("split",)), [2, 1])
        self.assertEqual(last(ROW, ("split",), ("field", 2, 1, 1, 1, 1), ("split",)), [0, 2])

    def test_nothing_is_changed(self):
        self.assertEqual(unchanged_by([ROW, ("found", 3, 0)], ("split",)), [0, 2])


if __name__ == "__main__":
    unittest.main()
