"""Point 13: cover. (What is no way: test_list_of_a_way.)"""

import unittest

from tests.helper import last, unchanged_by

# Four cells in a row, one crevasse of two cells: none, 01, 12 or 23.
ROW = ("field", 4, 1, 2, 2, 1)
# One crevasse of one cell: none, 0, 1, 2 or 3.
SINGLE = ("field", 4, 1, 1, 1, 1)

JUST_600 = [("field", 4, 6, 2, 4, 2), ("found", 1, 0), ("found", 12, 1)]
JUST_601 = [("field", 3, 6, 2, 4, 2), ("found", 0, 0), ("found", 13, 0)]


def cover(*before):
    return last(*before[:-1], ("cover", before[-1]))


class Refused(unittest.TestCase):
    def test_more_than_600_possible(self):
        self.assertEqual(last(*JUST_601, ("count",))[0], 601)
        for cells in ([0], [13], [5], [1, 4, 7]):
            self.assertEqual(unchanged_by(JUST_601, ("cover", cells)), [-8], cells)

    def test_600_possible(self):
        self.assertEqual(last(*JUST_600, ("count",))[0], 600)
        self.assertEqual(cover(*JUST_600, [1]), [0])
        self.assertEqual(cover(*JUST_600, [0]), [1, 0])
        self.assertEqual(cover(*JUST_600, [12]), [-6])

    def test_clear_in_nothing_possible(self):
        self.assertEqual(unchanged_by([ROW, ("found", 1, 1)], ("cover", [1])), [-6])
        self.assertEqual(cover(ROW, ("found", 1, 1), [0, 1, 2]), [-6])
        # 1 was found a hole, so it's 01 or 13, and no cell of the way is surely one.
        self.assertEqual(cover(("field", 2, 2, 2, 2, 1), ("found", 1, 1), [0, 3]), [-6])

    def test_more_than_three_cells(self):
        self.assertEqual(unchanged_by([SINGLE], ("cover", [0, 1, 2, 3])), [-9])
        self.assertEqual(cover(("field", 6, 6, 1, 1, 1), [0, 1, 2, 3, 4, 5, 11, 10, 9, 8, 7, 6]), [-9])

    def test_the_order_of_the_refusals(self):
        # More than 600, and cell 2 is a hole in all of them.
        before = [("field", 5, 6, 1, 4, 2), ("found", 2, 1), ("found", 4, 0)]
        self.assertEqual(last(*before, ("count",)), [1001, 0])
        self.assertEqual(cover(*before, [2]), [-8])
        self.assertEqual(cover(*before, [2, 2]), [-1])
        self.assertEqual(cover(*JUST_601, [18]), [-1])
        # Without the refusal it would be no cells and, with many of them, more than three.
        self.assertEqual(cover(*before, [4]), [-8])
        self.assertEqual(cover(*before, [0, 1, 6, 7, 8, 9, 13]), [-8])
        # Surely a hole, and five others that it would take.
        before = [("field", 6, 1, 1, 1, 2), ("found", 0, 1)]
        self.assertEqual(cover(*before, [0, 1, 2, 3, 4, 5]), [-6])
        self.assertEqual(cover(*before, [1, 2, 3, 4, 5]), [-9])


class Cells(unittest.TestCase):
    def test_none_where_it_is_surely_clear(self):
        self.assertEqual(cover(ROW, ("found", 0, 1), [2, 3]), [0])
        self.assertEqual(cover(ROW, ("found", 1, 1), [3]), [0])
        self.assertEqual(cover(("field", 6, 6, 1, 4, 0), [0, 7, 14]), [0])

    def test_one(self):
        self.assertEqual(cover(ROW, [0]), [1, 0])
        self.assertEqual(cover(ROW, [1]), [1, 1])
        # If 1 is firm, 0 is too; but not the other way round.
        self.assertEqual(cover(ROW, [0, 1]), [1, 1])
        self.assertEqual(cover(ROW, [3, 2]), [1, 2])

    def test_one_beside_the_way(self):
        # A crevasse of three cells in a row of three: each cell tells of all.
        self.assertEqual(cover(("field", 3, 2, 3, 3, 1), [2]), [1, 0])
        self.assertEqual(cover(("field", 3, 2, 3, 3, 1), [5]), [1, 3])
        self.assertEqual(cover(("field", 3, 2, 3, 3, 1), [1, 5]), [2, 0, 3])

    def test_two(self):
        self.assertEqual(cover(ROW, [0, 1, 2, 3]), [2, 0, 2])
        self.assertEqual(cover(ROW, [1, 2]), [2, 0, 2])
        self.assertEqual(cover(SINGLE, [2, 1]), [2, 1, 2])

    def test_three(self):
        self.assertEqual(cover(SINGLE, [0, 1, 2]), [3, 0, 1, 2])
        self.assertEqual(cover(SINGLE, [3, 2, 1]), [3, 1, 2, 3])
        self.assertEqual(cover(SINGLE, [3, 2, 1, 2, 3]), [3, 1, 2, 3])

    def test_the_fewest_come_before_the_least(self):
        # 0 and 2 would do, but 1 alone does too.
        self.assertEqual(cover(("field", 3, 1, 2, 2, 1), [0, 1, 2]), [1, 1])

    def test_the_least_second_one(self):
        # With 0 firm none, 12, 23 and 123 are left: 2 does, and 1 doesn't.
        self.assertEqual(cover(("field", 4, 1, 2, 3, 1), [1, 2, 3]), [2, 0, 2])
        # Each cell of the upper row with each of the lower one would do.
        self.assertEqual(cover(("field", 3, 2, 3, 3, 2), [1, 4]), [2, 0, 3])

    def test_found_cells_are_not_among_them(self):
        self.assertEqual(cover(SINGLE, ("found", 1, 0), [0, 1, 2, 3]), [3, 0, 2, 3])
        self.assertEqual(cover(ROW, ("found", 1, 0), [2]), [1, 2])
        self.assertEqual(cover(("field", 3, 2, 3, 3, 1), ("found", 3, 0), [2]), [1, 0])
        self.assertEqual(cover(("field", 3, 3, 3, 3, 2), ("found", 0, 1), ("found", 1, 0), ("found", 6, 1), [4]),
                         [1, 4])

    def test_all_of_them_firm_in_something_possible(self):
        # 01 or 012: in nothing possible 1 is firm.
        before = [("field", 4, 1, 2, 3, 1), ("found", 0, 1)]
        self.assertEqual(cover(*before, [2]), [1, 2])
        # 1 is a hole with 0 or with 2: 0 and 2 aren't both firm.
        before = [("field", 5, 1, 2, 2, 2), ("found", 1, 1)]
        self.assertEqual(cover(*before, [2, 3]), [2, 2, 3])

    def test_nothing_is_changed(self):
        self.assertEqual(unchanged_by([ROW], ("cover", [0, 1, 2, 3])), [2, 0, 2])


if __name__ == "__main__":
    unittest.main()
