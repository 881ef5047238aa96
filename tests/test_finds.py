"""Points 1 and 2: found, undo, and the call finds."""

import unittest

from tests.helper import HUGE, ask, last, unchanged_by

# Four cells in a row, one crevasse of two cells: none, 01, 12 or 23.
ROW = ("field", 4, 1, 2, 2, 1)


class Found(unittest.TestCase):
    def test_how_many_are_possible_then(self):
        self.assertEqual(ask(ROW, ("found", 0, 0)), [[4], [3]])
        self.assertEqual(ask(ROW, ("found", 0, 1)), [[4], [1]])
        self.assertEqual(ask(ROW, ("found", 1, 1), ("found", 2, 0)), [[4], [2], [1]])
        self.assertEqual(ask(ROW, ("found", 1, 0), ("count",)), [[4], [2], [2, 1]])

    def test_the_last_cell(self):
        self.assertEqual(ask(ROW, ("found", 3, 1), ("world", 0)), [[4], [1], [2, 2, 3]])

    def test_what_is_sure_already_can_be_found(self):
        told = ask(ROW, ("found", 0, 1), ("found", 1, 1), ("found", 3, 0), ("finds",))
        self.assertEqual(told, [[4], [1], [1], [1], [6, 0, 1, 1, 1, 3, 0]])

    def assert_refused(self, call, number):
        before = [ROW, ("found", 2, 0), ("found", 0, 1)]
        self.assertEqual(unchanged_by(before, call), [number], call)

    def test_out_of_range(self):
        for cell in (-1, 4, 5, HUGE, -HUGE):
            self.assert_refused(("found", cell, 0), -1)
        for v in (-1, 2, HUGE, -HUGE):
            self.assert_refused(("found", 3, v), -1)

    def test_found_already(self):
        self.assert_refused(("found", 2, 0), -5)
        self.assert_refused(("found", 0, 1), -5)

    def test_none_agrees(self):
        self.assert_refused(("found", 1, 0), -6)
        self.assert_refused(("found", 3, 1), -6)

    def test_the_order_of_the_refusals(self):
        # 2 was found firm: as a hole it's found already and none agrees.
        self.assert_refused(("found", 2, 1), -5)
        self.assert_refused(("found", 0, 0), -5)
        # Found already, and v out of its range.
        self.assert_refused(("found", 2, 2), -1)
        self.assert_refused(("found", 0, -1), -1)

    def test_after_a_refusal_the_cell_is_still_not_found(self):
        told = ask(ROW, ("found", 0, 1), ("found", 3, 1), ("undo", 3), ("found", 3, 0))
        self.assertEqual(told, [[4], [1], [-6], [-4], [1]])


class Undo(unittest.TestCase):
    def test_how_many_are_possible_then(self):
        told = ask(ROW, ("found", 0, 0), ("found", 1, 1), ("undo", 0), ("undo", 1))
        self.assertEqual(told, [[4], [3], [1], [2], [4]])

    def test_the_other_finds_stay_in_their_order(self):
        told = ask(ROW, ("found", 3, 0), ("found", 1, 1), ("found", 0, 1), ("found", 2, 0),
                   ("undo", 1), ("finds",), ("undo", 3), ("finds",), ("count",))
        self.assertEqual(told[5:], [[1], [6, 3, 0, 0, 1, 2, 0], [1], [4, 0, 1, 2, 0], [1, 0]])

    def test_found_again_it_comes_last(self):
        told = last(ROW, ("found", 3, 0), ("found", 0, 1), ("undo", 3), ("found", 3, 0), ("finds",))
        self.assertEqual(told, [4, 0, 1, 3, 0])

    def test_found_otherwise_afterwards(self):
        told = ask(ROW, ("found", 0, 1), ("undo", 0), ("found", 0, 0), ("finds",))
        self.assertEqual(told, [[4], [1], [4], [3], [2, 0, 0]])

    def test_refused(self):
        wrong = [(("undo", c), -1) for c in (-1, 4, HUGE, -HUGE)]
        wrong += [(("undo", c), -4) for c in (1, 3)]
        for call, number in wrong:
            before = [ROW, ("found", 2, 0), ("found", 0, 1)]
            self.assertEqual(unchanged_by(before, call), [number], call)

    def test_undone_already(self):
        told = ask(ROW, ("found", 2, 0), ("undo", 2), ("undo", 2))
        self.assertEqual(told, [[4], [2], [4], [-4]])


class Finds(unittest.TestCase):
    def test_none(self):
        self.assertEqual(last(ROW, ("finds",)), [0])
        self.assertEqual(last(ROW, ("found", 1, 1), ("undo", 1), ("finds",)), [0])

    def test_in_the_order_in_which_they_were_found(self):
        told = last(ROW, ("found", 3, 0), ("found", 1, 1), ("found", 2, 0), ("finds",))
        self.assertEqual(told, [6, 3, 0, 1, 1, 2, 0])


if __name__ == "__main__":
    unittest.main()
