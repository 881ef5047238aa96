"""Point 14: plan. (What is no way: test_list_of_a_way.)"""

import unittest

from tests.helper import last, unchanged_by

# Four cells in a row, one crevasse of two cells: none, 01, 12 or 23.
ROW = ("field", 4, 1, 2, 2, 1)
# One crevasse of one cell: none, 0, 1, 2 or 3.
SINGLE = ("field", 4, 1, 1, 1, 1)

JUST_150 = [("field", 2, 4, 1, 4, 2)]
JUST_151 = [("field", 3, 5, 2, 4, 2), ("found", 0, 1)]


def plan(*before):
    return last(*before[:-1], ("plan", before[-1]))


class Refused(unittest.TestCase):
    def test_more_than_150_possible(self):
        self.assertEqual(last(*JUST_151, ("count",))[0], 151)
        # 0 is a hole in all of them, so it would be settled.
        for cells in ([0], [14], [3, 4, 5]):
            self.assertEqual(unchanged_by(JUST_151, ("plan", cells)), [-8], cells)

    def test_150_possible(self):
        self.assertEqual(last(*JUST_150, ("count",))[0], 150)
        self.assertEqual(plan(*JUST_150, [5]), [1, 5])
        self.assertEqual(plan(*JUST_150, [0, 1, 2, 3, 4, 5, 6, 7]), [-9])

    def test_more_than_three(self):
        self.assertEqual(unchanged_by([SINGLE], ("plan", [0, 1, 2, 3])), [-9])

    def test_the_order_of_the_refusals(self):
        self.assertEqual(plan(*JUST_151, [15]), [-1])
        self.assertEqual(plan(*JUST_151, [0, 0]), [-1])
        self.assertEqual(plan(*JUST_151, [0, 1, 2, 5, 4, 3, 6, 7, 8]), [-8])


class Settled(unittest.TestCase):
    def test_clear_in_all(self):
        self.assertEqual(plan(ROW, ("found", 1, 1), [3]), [0])
        self.assertEqual(plan(("field", 6, 6, 1, 4, 0), [0, 7, 14]), [0])

    def test_clear_in_none(self):
        self.assertEqual(plan(ROW, ("found", 1, 1), [1]), [0])
        self.assertEqual(plan(ROW, ("found", 1, 1), [0, 1, 2]), [0])
        # 1 was found a hole, so it's 01 or 13.
        self.assertEqual(plan(("field", 2, 2, 2, 2, 1), ("found", 1, 1), [0, 3]), [0])

    def test_all_cells_found(self):
        self.assertEqual(plan(("field", 2, 1, 1, 1, 1), ("found", 0, 0), ("found", 1, 1), [0, 1]), [0])


class Probes(unittest.TestCase):
    def test_one(self):
        self.assertEqual(plan(ROW, [0]), [1, 0])
        self.assertEqual(plan(ROW, [2]), [1, 2])
        self.assertEqual(plan(ROW, [0, 1]), [1, 1])
        self.assertEqual(plan(SINGLE, [3]), [1, 3])

    def test_one_beside_the_way(self):
        # A crevasse of three cells in a row of three: each cell tells of all.
        self.assertEqual(plan(("field", 3, 2, 3, 3, 1), [2]), [1, 0])
        self.assertEqual(plan(("field", 3, 2, 3, 3, 1), [5]), [1, 3])
        self.assertEqual(plan(("field", 3, 2, 3, 3, 1), ("found", 3, 0), [2]), [1, 0])

    def test_a_hole_found_may_settle_it_as_clear(self):
        # With 1 a hole it's 01 or 12: whether 2 is firm is seen at 0.
        self.assertEqual(plan(ROW, ("found", 1, 1), [2]), [1, 0])
        self.assertEqual(plan(ROW, ("found", 1, 1), [2, 3]), [1, 0])

    def test_two(self):
        self.assertEqual(plan(ROW, [1, 2]), [2, 0])
        self.assertEqual(plan(ROW, [0, 1, 2, 3]), [2, 0])
        self.assertEqual(plan(SINGLE, [2, 1]), [2, 1])
        self.assertEqual(plan(SINGLE, [2, 3, 2]), [2, 2])

    def test_three(self):
        self.assertEqual(plan(SINGLE, [0, 1, 2]), [3, 0])
        self.assertEqual(plan(SINGLE, [3, 2, 1]), [3, 1])

    def test_the_next_cell_is_chosen_by_what_was_found(self):
        # With 5 firm: none, 01, 02, 13, 23 or 24. If 2 is a hole, 0 tells the rest, else 1 does.
        # Three cells would have to be chosen beforehand.
        self.assertEqual(plan(("field", 2, 3, 2, 2, 1), ("found", 5, 0), [1, 3, 4]), [2, 2])
        # Four beforehand.
        self.assertEqual(plan(("field", 4, 2, 2, 3, 1), ("found", 3, 0), [4, 5, 2, 5, 6, 5]), [3, 1])

    def test_found_cells_are_not_probed_again(self):
        self.assertEqual(plan(SINGLE, ("found", 0, 0), [0, 1, 2, 3]), [3, 1])
        self.assertEqual(plan(SINGLE, ("found", 1, 0), [0, 1, 2, 3]), [3, 0])
        self.assertEqual(plan(SINGLE, ("found", 1, 0), ("found", 0, 0), [0, 1, 2, 3]), [2, 2])
        self.assertEqual(plan(("field", 3, 1, 3, 3, 1), ("found", 0, 0), [2]), [0])

    def test_nothing_is_changed(self):
        self.assertEqual(unchanged_by([ROW], ("plan", [1, 2])), [2, 0])


if __name__ == "__main__":
    unittest.main()
