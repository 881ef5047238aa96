"""What is a way and what isn't, for each call that is handed one."""

import unittest

from tests.helper import HUGE, ask, last, unchanged_by

# Each call on a way, without its way; its arguments are in their ranges.
ON_A_WAY = [("look",), ("rope", 2, 1, 1), ("fewest", 1, 1), ("spacing", 2, 1), ("cover",), ("plan",)]
# What each answers where no crevasse can be.
ON_FIRM = [[1, 0, 1], [1], [1], [1], [0], [0]]

#   0  1  2  3
#   4  5  6  7
#   8  9 10 11
FIRM = ("field", 4, 3, 1, 1, 0)
BEFORE = [("field", 4, 3, 1, 1, 1), ("found", 6, 0)]


class NoWay(unittest.TestCase):
    def assert_no_way(self, cells):
        for call in ON_A_WAY:
            self.assertEqual(unchanged_by(BEFORE, call + (cells,)), [-1], (call, cells))

    def test_none(self):
        self.assert_no_way([])

    def test_more_than_twelve(self):
        for size in range(13, 17):
            self.assert_no_way([0, 1] * 6 + [0, 1, 0, 1][:size - 12])

    def test_a_cell_outside_the_field(self):
        for wrong in (-1, 12, 13, HUGE, -HUGE):
            for cells in ([wrong], [wrong, 0], [0, wrong], [11, wrong], [7, wrong], [0, 1, wrong], [8, wrong, 9]):
                self.assert_no_way(cells)

    def test_the_same_cell_twice_in_a_row(self):
        for cells in ([0, 0], [5, 5], [11, 11], [0, 1, 1], [0, 0, 1], [1, 5, 5, 6]):
            self.assert_no_way(cells)

    def test_over_an_edge(self):
        for cells in ([3, 4], [4, 3], [7, 8], [8, 7], [3, 8], [8, 3], [0, 7], [7, 0], [4, 11], [1, 2, 3, 4]):
            self.assert_no_way(cells)

    def test_above_and_below_the_field(self):
        for cells in ([8, 12], [0, -4], [0, 8], [8, 0], [3, -1]):
            self.assert_no_way(cells)

    def test_a_cell_left_out(self):
        for cells in ([0, 2], [2, 0], [0, 10], [1, 9], [0, 1, 3], [0, 6], [9, 3]):
            self.assert_no_way(cells)

    def test_cells_of_an_earlier_field(self):
        for call in ON_A_WAY:
            told = ask(FIRM, call + ([1, 5],), ("field", 5, 1, 1, 1, 0), call + ([1, 5],), call + ([3, 4],))
            self.assertEqual(told[3], [-1], call)
            self.assertEqual(told[4], told[1], call)

    def test_ahead_of_the_first_field(self):
        for call, told in zip(ON_A_WAY, ON_FIRM):
            self.assertEqual(ask(call + ([0],), call + ([1],), call + ([],), call + ([0, 0],)),
                             [told, [-1], [-1], [-1]], call)


class Ways(unittest.TestCase):
    def assert_way(self, cells):
        for call, told in zip(ON_A_WAY, ON_FIRM):
            self.assertEqual(last(FIRM, call + (cells,)), told, (call, cells))

    def test_one_cell(self):
        for cell in range(12):
            self.assert_way([cell])

    def test_each_direction(self):
        for cell in (0, 1, 2, 4, 6, 8, 9, 10):
            self.assert_way([5, cell])
            self.assert_way([cell, 5])

    def test_twelve_cells(self):
        self.assert_way([0, 1, 2, 3, 7, 6, 5, 4, 8, 9, 10, 11])
        self.assert_way([0, 1] * 6)

    def test_coming_back(self):
        self.assert_way([0, 1, 0])
        self.assert_way([5, 6, 10, 5, 6])


if __name__ == "__main__":
    unittest.main()
