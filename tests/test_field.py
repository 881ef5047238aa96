"""Point 0: field, and the counts of what's possible."""

import unittest

from tests.helper import HUGE, Model, ask, last, unchanged_by


def count(*numbers):
    return last(("field",) + numbers)


class Counts(unittest.TestCase):
    def test_many_0(self):
        self.assertEqual(count(1, 1, 1, 1, 0), [1])
        self.assertEqual(count(6, 6, 1, 4, 0), [1])

    def test_one_cell(self):
        self.assertEqual(count(1, 1, 1, 1, 1), [2])
        # The same crevasse twice makes nothing new.
        self.assertEqual(count(1, 1, 1, 1, 2), [2])
        self.assertEqual(count(1, 1, 1, 4, 2), [2])

    def test_single_cells(self):
        self.assertEqual(count(2, 2, 1, 1, 1), [1 + 4])
        self.assertEqual(count(2, 2, 1, 1, 2), [1 + 4 + 6])
        self.assertEqual(count(6, 6, 1, 1, 2), [1 + 36 + 36 * 35 // 2])

    def test_side_by_side_and_below_one_another(self):
        self.assertEqual(count(3, 1, 2, 2, 1), [3])
        self.assertEqual(count(1, 3, 2, 2, 1), [3])
        self.assertEqual(count(4, 3, 3, 3, 1), [1 + 2 * 3 + 4])

    def test_least_to_most(self):
        # 4 of one cell, 3 of two, 2 of three, 1 of four.
        self.assertEqual(count(4, 1, 1, 4, 1), [1 + 10])
        self.assertEqual(count(4, 1, 2, 4, 1), [1 + 6])
        self.assertEqual(count(4, 1, 2, 3, 1), [1 + 5])
        self.assertEqual(count(4, 1, 4, 4, 1), [1 + 1])

    def test_touching_counted_once(self):
        # Of two cells each: none; 01, 12, 23; together 012, 123 and 0123.
        self.assertEqual(count(4, 1, 2, 2, 2), [7])
        # 01 is one crevasse of two cells or two of one cell.
        self.assertEqual(count(2, 1, 1, 2, 2), [4])

    def test_crossing_counted_once(self):
        # Four crevasses; two that cross make a corner of three cells, both
        # pairs side by side make all four cells.
        self.assertEqual(count(2, 2, 2, 2, 2), [1 + 4 + 4 + 1])
        # Six crevasses of three cells; all 15 pairs differ.
        self.assertEqual(count(3, 3, 3, 3, 2), [1 + 6 + 15])

    def test_covering_counted_once(self):
        # Of 2 or 3 cells in a row of three: 01, 12, 012, and none.
        self.assertEqual(count(3, 1, 2, 3, 2), [4])

    def test_least_longer_than_the_field(self):
        self.assertEqual(count(3, 3, 4, 4, 2), [1])
        self.assertEqual(count(3, 2, 3, 4, 1), [1 + 2])
        self.assertEqual(count(2, 3, 3, 4, 1), [1 + 2])
        self.assertEqual(count(2, 3, 3, 4, 2), [4])
        self.assertEqual(count(1, 4, 4, 4, 2), [2])

    def test_the_greatest_field(self):
        self.assertEqual(count(6, 6, 1, 4, 1), [1 + 36 + 2 * 6 * (5 + 4 + 3)])
        model = Model()
        self.assertEqual(count(6, 6, 1, 4, 2), model.field(6, 6, 1, 4, 2))
        self.assertEqual(count(6, 6, 1, 4, 2), [13254])

    def test_every_small_field(self):
        model = Model()
        for w in range(1, 5):
            for h in range(1, 4):
                for least in range(1, 5):
                    for most in range(least, 5):
                        for many in range(3):
                            asked = (w, h, least, most, many)
                            self.assertEqual(count(*asked), model.field(*asked), asked)


class Refused(unittest.TestCase):
    WRONG = [
        (0, 3, 1, 2, 1), (7, 3, 1, 2, 1), (-1, 3, 1, 2, 1),
        (3, 0, 1, 2, 1), (3, 7, 1, 2, 1), (3, -1, 1, 2, 1),
        (3, 3, 0, 2, 1), (3, 3, 5, 5, 1), (3, 3, 5, 4, 1), (3, 3, -1, 2, 1),
        (3, 3, 1, 0, 1), (3, 3, 1, 5, 1), (3, 3, 2, 1, 1), (3, 3, 4, 3, 1), (3, 3, 4, 1, 1),
        (3, 3, 1, 2, -1), (3, 3, 1, 2, 3),
    ]

    def assert_refused(self, wrong):
        before = [("field", 3, 2, 1, 2, 1), ("found", 4, 0), ("found", 1, 1)]
        self.assertEqual(unchanged_by(before, ("field",) + wrong), [-1], wrong)

    def test_each_argument_out_of_its_range(self):
        for wrong in self.WRONG:
            self.assert_refused(wrong)

    def test_very_large_and_very_small(self):
        for place in range(5):
            for number in (HUGE, -HUGE):
                wrong = [3, 3, 1, 2, 1]
                wrong[place] = number
                self.assert_refused(tuple(wrong))
        self.assert_refused((HUGE,) * 5)
        self.assert_refused((-HUGE,) * 5)

    def test_the_ends_of_the_ranges_are_taken(self):
        for right in [(1, 1, 1, 1, 0), (6, 6, 4, 4, 2), (1, 6, 1, 4, 1), (6, 1, 4, 4, 2), (6, 6, 1, 1, 0)]:
            self.assertGreaterEqual(count(*right)[0], 1, right)


class ANewField(unittest.TestCase):
    def test_forgets_the_finds(self):
        told = ask(("field", 3, 1, 1, 1, 1), ("found", 1, 1), ("field", 3, 1, 1, 1, 1),
                   ("finds",), ("count",), ("undo", 1), ("found", 1, 0))
        self.assertEqual(told, [[4], [1], [4], [0], [4, 1], [-4], [3]])

    def test_cells_are_those_of_the_field_there_is_then(self):
        told = ask(("field", 3, 2, 1, 1, 1), ("cell", 5), ("cell", 6), ("map",),
                   ("field", 2, 1, 1, 1, 1), ("cell", 1), ("cell", 2), ("cell", 5), ("map",))
        self.assertEqual(told, [[7], [2, 1, 7], [-1], [6, 2, 2, 2, 2, 2, 2],
                                [3], [2, 1, 3], [-1], [-1], [2, 2, 2]])


if __name__ == "__main__":
    unittest.main()
