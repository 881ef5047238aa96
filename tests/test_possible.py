"""Points 5 and 7: cell and world; and the calls count and map."""

import unittest

from tests.helper import HUGE, Model, ask, last

# Four cells in a row, one crevasse of two cells: none, 01, 12 or 23.
ROW = ("field", 4, 1, 2, 2, 1)
# Two by two cells, one crevasse of two cells: none, 01, 02, 13 or 23.
SQUARE = ("field", 2, 2, 2, 2, 1)


class Count(unittest.TestCase):
    def test_without_holes_possible(self):
        self.assertEqual(last(ROW, ("count",)), [4, 1])
        self.assertEqual(last(ROW, ("found", 0, 0), ("count",)), [3, 1])

    def test_without_holes_not_possible(self):
        self.assertEqual(last(ROW, ("found", 1, 1), ("count",)), [2, 0])

    def test_again_possible_after_undo(self):
        self.assertEqual(last(ROW, ("found", 1, 1), ("undo", 1), ("count",)), [4, 1])

    def test_only_the_one_without_holes(self):
        self.assertEqual(last(("field", 5, 4, 1, 3, 0), ("count",)), [1, 1])


class Cell(unittest.TestCase):
    def test_unknown(self):
        told = ask(ROW, ("cell", 0), ("cell", 1), ("cell", 2), ("cell", 3))
        self.assertEqual(told[1:], [[2, 1, 4], [2, 2, 4], [2, 2, 4], [2, 1, 4]])

    def test_surely_firm_and_surely_a_hole(self):
        told = ask(ROW, ("found", 0, 1), ("cell", 0), ("cell", 1), ("cell", 2), ("cell", 3))
        self.assertEqual(told[2:], [[1, 1, 1], [1, 1, 1], [0, 0, 1], [0, 0, 1]])

    def test_sure_with_several_possible(self):
        told = ask(ROW, ("found", 1, 1), ("cell", 0), ("cell", 1), ("cell", 2), ("cell", 3))
        self.assertEqual(told[2:], [[2, 1, 2], [1, 2, 2], [2, 1, 2], [0, 0, 2]])

    def test_out_of_range(self):
        for cell in (-1, 4, HUGE, -HUGE):
            self.assertEqual(ask(ROW, ("cell", cell), ("count",))[1:], [[-1], [4, 1]])


class Map(unittest.TestCase):
    def test_no_finds(self):
        self.assertEqual(last(ROW, ("map",)), [4, 2, 2, 2, 2])
        self.assertEqual(last(("field", 2, 3, 1, 1, 0), ("map",)), [6, 0, 0, 0, 0, 0, 0])

    def test_a_row_without_a_crevasse(self):
        # Crevasses of three cells lie side by side alone, so 3 and 5 are firm as 4 is.
        self.assertEqual(last(("field", 3, 2, 3, 3, 1), ("found", 4, 0), ("map",)), [6, 2, 2, 2, 0, 0, 0])

    def test_all_three(self):
        self.assertEqual(last(ROW, ("found", 1, 1), ("map",)), [4, 2, 1, 2, 0])

    def test_as_in_cell(self):
        before = [("field", 4, 4, 2, 3, 2), ("found", 5, 1), ("found", 6, 0), ("found", 12, 1), ("found", 10, 1)]
        told = last(*before, ("map",))
        self.assertEqual(told[0], 16)
        self.assertEqual(told[1:], [last(*before, ("cell", c))[0] for c in range(16)])
        self.assertEqual(set(told[1:]), {0, 1, 2})


class World(unittest.TestCase):
    def test_the_rising_order_of_the_numbers(self):
        told = ask(SQUARE, *[("world", k) for k in range(6)])
        self.assertEqual(told[1:], [[0], [2, 0, 1], [2, 0, 2], [2, 1, 3], [2, 2, 3], [-4]])

    def test_more_holes_may_come_earlier(self):
        told = ask(("field", 3, 1, 1, 3, 1), *[("world", k) for k in range(8)])
        self.assertEqual(told[1:], [[0], [1, 0], [1, 1], [2, 0, 1], [1, 2], [2, 1, 2], [3, 0, 1, 2], [-4]])

    def test_only_what_agrees_is_counted(self):
        told = ask(SQUARE, ("found", 0, 0), *[("world", k) for k in range(4)])
        self.assertEqual(told[1:], [[3], [0], [2, 1, 3], [2, 2, 3], [-4]])

    def test_k_at_the_ends_of_its_range(self):
        told = ask(SQUARE, ("found", 3, 1), ("world", 0), ("world", 1), ("world", 2), ("world", 100000))
        self.assertEqual(told[2:], [[2, 1, 3], [2, 2, 3], [-4], [-4]])

    def test_k_out_of_its_range(self):
        for k in (-1, 100001, HUGE, -HUGE):
            self.assertEqual(ask(SQUARE, ("world", k), ("count",))[1:], [[-1], [5, 1]])

    def test_the_greatest_field(self):
        field = ("field", 6, 6, 1, 4, 2)
        # The greatest number: the last row whole, which takes both crevasses.
        told = ask(field, ("world", 13253), ("world", 13254), ("world", 100000), ("world", 100001))
        self.assertEqual(told[1], [6, 30, 31, 32, 33, 34, 35])
        self.assertEqual(told[2:], [[-4], [-4], [-1]])

    def test_all_of_a_field_in_order(self):
        model = Model()
        asked = (4, 4, 1, 2, 2)
        size = model.field(*asked)[0]
        for first in range(0, size, 150):
            ks = range(first, min(first + 150, size + 1))
            told = ask(("field",) + asked, *[("world", k) for k in ks])
            self.assertEqual(told[1:], [model.world(k) for k in ks])


if __name__ == "__main__":
    unittest.main()
