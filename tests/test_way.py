"""Point 8: way."""

import unittest

from tests.helper import (DOWN, DOWN_LEFT, DOWN_RIGHT, HUGE, LEFT, RIGHT, UP, UP_LEFT,
                          UP_RIGHT, ask, last)

# One crevasse of three cells: with 4 and 5 holes it's 4, 5, 6, and a gap is at 7.
#   0  1  2  3
#   .  .  .  7
#   8  9 10 11
WALL = [("field", 4, 3, 3, 3, 1), ("found", 4, 1), ("found", 5, 1)]
# One crevasse over the whole width of three.
CUT = [("field", 3, 3, 3, 3, 1), ("found", 3, 1), ("found", 5, 1)]


def firm_field(w, h):
    return ("field", w, h, 1, 1, 0)


def way(w, h, a, b):
    """The directions over a field without crevasses, checked against their count."""
    told = last(firm_field(w, h), ("way", a, b))
    assert told[0] == len(told) - 1, told
    return told[1:]


class Directions(unittest.TestCase):
    def test_each_of_the_eight(self):
        for direction, goal in [(UP, 1), (UP_RIGHT, 2), (RIGHT, 5), (DOWN_RIGHT, 8),
                                (DOWN, 7), (DOWN_LEFT, 6), (LEFT, 3), (UP_LEFT, 0)]:
            self.assertEqual(last(firm_field(3, 3), ("way", 4, goal)), [1, direction])

    def test_from_a_to_b_and_not_back(self):
        self.assertEqual(way(1, 6, 0, 5), [DOWN] * 5)
        self.assertEqual(way(1, 6, 5, 0), [UP] * 5)
        self.assertEqual(way(6, 1, 0, 5), [RIGHT] * 5)
        self.assertEqual(way(6, 1, 5, 0), [LEFT] * 5)
        self.assertEqual(way(6, 6, 0, 35), [DOWN_RIGHT] * 5)
        self.assertEqual(way(6, 6, 30, 5), [UP_RIGHT] * 5)

    def test_none_where_a_is_b(self):
        for cell in range(6):
            self.assertEqual(last(firm_field(3, 2), ("way", cell, cell)), [0])


class Edges(unittest.TestCase):
    def test_a_row_does_not_lead_on_into_the_next(self):
        self.assertEqual(way(3, 2, 2, 3), [DOWN_LEFT, LEFT])
        self.assertEqual(way(3, 2, 3, 2), [UP_RIGHT, RIGHT])
        self.assertEqual(way(3, 3, 2, 6), [DOWN_LEFT, DOWN_LEFT])
        self.assertEqual(way(2, 2, 1, 2), [DOWN_LEFT])

    def test_above_and_below_the_field_is_nothing(self):
        self.assertEqual(way(1, 3, 0, 2), [DOWN, DOWN])
        self.assertEqual(way(4, 1, 0, 3), [RIGHT, RIGHT, RIGHT])


class TheOneAskedFor(unittest.TestCase):
    def test_the_least_first_direction(self):
        self.assertEqual(way(3, 3, 0, 5), [RIGHT, DOWN_RIGHT])
        self.assertEqual(way(3, 3, 6, 1), [UP, UP_RIGHT])
        self.assertEqual(way(3, 3, 8, 1), [UP, UP_LEFT])
        self.assertEqual(way(3, 3, 3, 5), [UP_RIGHT, DOWN_RIGHT])

    def test_the_least_second_direction_and_so_on(self):
        # As few: up to the right, down to the right, right.
        self.assertEqual(way(4, 3, 4, 7), [UP_RIGHT, RIGHT, DOWN_RIGHT])
        self.assertEqual(way(4, 3, 0, 3), [RIGHT, RIGHT, RIGHT])
        self.assertEqual(way(5, 5, 10, 14), [UP_RIGHT, UP_RIGHT, DOWN_RIGHT, DOWN_RIGHT])
        self.assertEqual(way(5, 5, 22, 2), [UP, UP, UP, UP])
        self.assertEqual(way(5, 5, 2, 22), [DOWN_RIGHT, DOWN_RIGHT, DOWN_LEFT, DOWN_LEFT])

    def test_the_fewest_directions_come_first(self):
        # Right is less than down to the right, but would take two.
        self.assertEqual(way(2, 2, 0, 3), [DOWN_RIGHT])
        self.assertEqual(way(3, 3, 8, 0), [UP_LEFT, UP_LEFT])

    def test_round_holes(self):
        told = last(*WALL, ("way", 0, 8))
        self.assertEqual(told, [6, RIGHT, RIGHT, DOWN_RIGHT, DOWN_LEFT, LEFT, LEFT])
        told = last(*WALL, ("way", 9, 1))
        self.assertEqual(told, [4, RIGHT, UP_RIGHT, UP_LEFT, LEFT])

    def test_between_holes_that_touch_at_a_corner(self):
        before = [("field", 2, 2, 1, 1, 2), ("found", 0, 1), ("found", 3, 1)]
        self.assertEqual(last(*before, ("way", 1, 2)), [1, DOWN_LEFT])

    def test_more_than_twelve_cells(self):
        # Holes in the second row but for its last cell, and in the fourth but for its first.
        before = [("field", 5, 6, 4, 4, 2), ("found", 5, 1), ("found", 6, 1), ("found", 18, 1), ("found", 19, 1)]
        told = ask(*before, ("world", 0), ("count",), ("way", 0, 24))
        self.assertEqual(told[-3:-1], [[8, 5, 6, 7, 8, 16, 17, 18, 19], [1, 0]])
        self.assertEqual(told[-1], [12, RIGHT, RIGHT, RIGHT, DOWN_RIGHT, DOWN_LEFT, LEFT, LEFT, DOWN_LEFT,
                                    DOWN_RIGHT, RIGHT, RIGHT, RIGHT])


class Refused(unittest.TestCase):
    def test_out_of_range(self):
        for wrong in (-1, 12, HUGE, -HUGE):
            for pair in [(wrong, 0), (0, wrong), (wrong, wrong), (wrong, 4), (4, wrong)]:
                self.assertEqual(last(*WALL, ("way",) + pair), [-1], pair)

    def test_surely_a_hole(self):
        self.assertEqual(last(*WALL, ("way", 5, 0)), [-9])
        self.assertEqual(last(*WALL, ("way", 0, 5)), [-9])
        self.assertEqual(last(*WALL, ("way", 5, 5)), [-9])
        self.assertEqual(last(*WALL, ("way", 5, 6)), [-9])

    def test_unknown(self):
        # Three cells, one crevasse of one cell; 0 was found firm.
        before = [("field", 3, 1, 1, 1, 1), ("found", 0, 0)]
        self.assertEqual(last(*before, ("way", 0, 0)), [0])
        for pair in [(0, 1), (1, 0), (1, 1), (1, 2)]:
            self.assertEqual(last(*before, ("way",) + pair), [-9], pair)

    def test_unknown_cells_are_no_part_of_a_way(self):
        before = [("field", 3, 1, 1, 1, 1), ("found", 0, 0), ("found", 2, 0)]
        self.assertEqual(last(*before, ("way", 0, 2)), [-9])
        self.assertEqual(last(*before, ("found", 1, 0), ("way", 0, 2)), [2, RIGHT, RIGHT])

    def test_no_way_between(self):
        self.assertEqual(last(*CUT, ("way", 0, 2)), [2, RIGHT, RIGHT])
        self.assertEqual(last(*CUT, ("way", 0, 6)), [-9])
        self.assertEqual(last(*CUT, ("way", 8, 2)), [-9])

    def test_nothing_is_changed(self):
        told = ask(*CUT, ("finds",), ("map",), ("way", 0, 6), ("way", 9, 0), ("way", 0, 2), ("finds",), ("map",))
        self.assertEqual(told[3:5], told[8:10])


if __name__ == "__main__":
    unittest.main()
