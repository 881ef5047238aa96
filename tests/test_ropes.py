"""Points 10, 11 and 12: rope, fewest and spacing. (What is no way: test_list_of_a_way.)"""

import unittest

from tests.helper import HUGE, last, unchanged_by

# Only one hidden field is possible in each of these: holes 0 and 2 of three; all three;
# 0 and 4 of six; all six; cell 0 of two.
ENDS = [("field", 3, 1, 1, 1, 2), ("found", 0, 1), ("found", 2, 1)]
ALL_THREE = [("field", 3, 1, 3, 3, 1), ("found", 0, 1)]
APART = [("field", 6, 1, 1, 1, 2), ("found", 0, 1), ("found", 4, 1)]
ALL_SIX = [("field", 6, 1, 4, 4, 2), ("found", 0, 1), ("found", 5, 1)]
ONE = [("field", 2, 1, 1, 1, 1), ("found", 0, 1)]
THREE = [0, 1, 2]
SIX = [0, 1, 2, 3, 4, 5]

JUST_1000 = [("field", 5, 6, 2, 4, 2), ("found", 12, 1), ("found", 14, 0)]
JUST_1001 = [("field", 5, 6, 1, 4, 2), ("found", 2, 1), ("found", 4, 0)]


def rope(before, *call):
    return last(*before, ("rope",) + call)


class Refused(unittest.TestCase):
    # For each call arguments in their ranges, and how far each range goes from 1 on.
    CALLS = [("rope", (2, 1, 1), (9, 6, 4)), ("fewest", (1, 1), (6, 4)), ("spacing", (2, 1), (9, 4))]

    def test_each_argument_out_of_its_range(self):
        for name, good, highs in self.CALLS:
            for place, high in enumerate(highs):
                for wrong in (0, -1, high + 1, HUGE, -HUGE):
                    numbers = good[:place] + (wrong,) + good[place + 1:]
                    call = (name,) + numbers + ([1],)
                    self.assertEqual(unchanged_by(ENDS, call), [-1], call)

    def test_the_ends_of_the_ranges_are_taken(self):
        for name, good, highs in self.CALLS:
            for place, high in enumerate(highs):
                for right in (1, high):
                    call = (name,) + good[:place] + (right,) + good[place + 1:] + ([1],)
                    self.assertEqual(unchanged_by(ENDS, call), [1], call)

    def test_more_than_a_thousand_possible(self):
        self.assertEqual(last(*JUST_1001, ("count",))[0], 1001)
        self.assertEqual(last(*JUST_1000, ("count",))[0], 1000)
        for name, good, highs in self.CALLS:
            for cells in ([4], [1], [2]):
                self.assertEqual(unchanged_by(JUST_1001, (name,) + good + (cells,)), [-8])
        self.assertEqual(last(("field", 6, 6, 1, 4, 2), ("fewest", 1, 1, [0])), [-8])

    def test_a_thousand_possible(self):
        self.assertEqual(rope(JUST_1000, 1, 1, 1, [14]), [1])
        self.assertEqual(last(*JUST_1000, ("fewest", 1, 1, [14])), [1])
        self.assertEqual(last(*JUST_1000, ("spacing", 1, 1, [14])), [1])
        self.assertEqual(rope(JUST_1000, 1, 1, 1, [12])[:3], [0, 0, 1])
        self.assertEqual(last(*JUST_1000, ("fewest", 1, 2, [12])), [3])
        self.assertEqual(last(*JUST_1000, ("spacing", 2, 2, [12])), [-9])

    def test_out_of_range_comes_before_too_many(self):
        for name, good, highs in self.CALLS:
            self.assertEqual(last(*JUST_1001, (name,) + good + ([30],)), [-1])
            self.assertEqual(last(*JUST_1001, (name, 0) + good[1:] + ([0],)), [-1])


class Safe(unittest.TestCase):
    def test_surely_clear(self):
        self.assertEqual(rope(ENDS, 1, 1, 4, [1]), [1])
        self.assertEqual(rope([("field", 3, 3, 1, 4, 0)], 1, 1, 4, [0, 4, 8]), [1])

    def test_those_who_fall_times_hold_and_1_just_equal(self):
        self.assertEqual(rope(ENDS, 2, 1, 1, THREE), [1])
        self.assertEqual(rope(ENDS, 4, 1, 1, THREE), [1])
        self.assertEqual(rope(ENDS, 6, 1, 2, THREE), [1])
        self.assertEqual(rope(ENDS, 8, 1, 3, THREE), [1])
        self.assertEqual(rope(ALL_THREE, 9, 1, 2, THREE), [1])
        self.assertEqual(rope(ONE, 5, 1, 4, [0]), [1])

    def test_just_more(self):
        self.assertEqual(rope(ENDS, 1, 1, 1, THREE), [0, 0, 1, 2, 0, 2])
        self.assertEqual(rope(ENDS, 3, 1, 1, THREE), [0, 2, 2, 2, 0, 2])
        self.assertEqual(rope(ENDS, 5, 1, 2, THREE), [0, 2, 2, 2, 0, 2])
        self.assertEqual(rope(ENDS, 7, 1, 3, THREE), [0, 2, 2, 2, 0, 2])
        self.assertEqual(rope(ENDS, 9, 1, 4, THREE), [0, 2, 2, 2, 0, 2])
        self.assertEqual(rope(ALL_THREE, 8, 1, 2, THREE), [0, 2, 3, 3, 0, 1, 2])
        self.assertEqual(rope(ONE, 4, 1, 4, [0]), [0, 0, 1, 1, 0])

    def test_more_members_than_the_way_has_cells(self):
        self.assertEqual(rope(ALL_THREE, 9, 1, 1, THREE), [1])
        self.assertEqual(rope(ALL_THREE, 6, 1, 1, THREE), [1])
        self.assertEqual(rope(ALL_THREE, 5, 1, 1, THREE), [0, 2, 3, 3, 0, 1, 2])
        self.assertEqual(rope(ONE, 9, 6, 4, [0]), [1])

    def test_members_beside_the_way_stand_firmly(self):
        # Member 1 isn't yet on the way when member 0 is on its first cell, and
        # member 0 isn't any more on it when member 1 is on its last.
        self.assertEqual(rope(ENDS, 2, 1, 1, THREE), [1])
        self.assertEqual(rope(ENDS, 2, 3, 1, THREE), [1])
        self.assertEqual(rope(ENDS, 9, 6, 4, THREE), [1])
        self.assertEqual(rope(ALL_THREE, 2, 3, 1, THREE), [1])


class ByTheSpacing(unittest.TestCase):
    def test_two_on_the_way_at_once(self):
        for s, told in [(1, [1]), (2, [1]), (3, [1]), (4, [0, 4, 2, 2, 0, 4]), (5, [1]), (6, [1])]:
            self.assertEqual(rope(APART, 2, s, 1, SIX), told, s)

    def test_the_third_member_is_twice_as_far_behind(self):
        for s, told in [(1, [1]), (2, [0, 4, 2, 2, 0, 4]), (3, [1]), (4, [0, 4, 2, 2, 0, 4]), (5, [1])]:
            self.assertEqual(rope(APART, 3, s, 1, SIX), told, s)

    def test_enough_members_hold_both(self):
        for s in range(1, 7):
            self.assertEqual(rope(APART, 4, s, 1, SIX), [1], s)

    def test_three_at_once(self):
        self.assertEqual(rope(ALL_SIX, 5, 2, 1, SIX), [0, 4, 3, 6, 0, 1, 2, 3, 4, 5])
        self.assertEqual(rope(ALL_SIX, 6, 2, 1, SIX), [1])
        self.assertEqual(rope(ALL_SIX, 4, 2, 1, SIX), [0, 4, 3, 6, 0, 1, 2, 3, 4, 5])
        self.assertEqual(rope(ALL_SIX, 4, 3, 1, SIX), [1])

    def test_two_members_on_the_same_cell(self):
        self.assertEqual(rope(ONE, 2, 2, 1, [0, 1, 0]), [0, 2, 2, 1, 0])
        self.assertEqual(rope(ONE, 2, 1, 1, [0, 1, 0]), [1])
        self.assertEqual(rope(ONE, 3, 2, 1, [0, 1, 0, 1, 0]), [0, 2, 2, 1, 0])
        self.assertEqual(rope(ONE, 5, 2, 1, [0, 1, 0, 1, 0]), [0, 4, 3, 1, 0])


class TheFirst(unittest.TestCase):
    # None, 0, 1 or 2.
    SINGLE = [("field", 3, 1, 1, 1, 1)]
    # None, 0, 1, 01, 2, 02 or 12.
    DOUBLE = [("field", 3, 1, 1, 1, 2)]

    def test_the_time_comes_before_the_order_of_what_is_possible(self):
        self.assertEqual(rope(self.SINGLE, 1, 1, 1, THREE), [0, 0, 1, 1, 0])
        self.assertEqual(rope(self.SINGLE, 1, 1, 1, [2, 1, 0]), [0, 0, 1, 1, 2])
        self.assertEqual(rope(self.DOUBLE, 2, 1, 1, [2, 1, 0]), [0, 1, 2, 2, 1, 2])

    def test_the_time_goes_on_where_it_is_firm(self):
        self.assertEqual(rope(self.SINGLE + [("found", 0, 0)], 1, 1, 1, THREE), [0, 1, 1, 1, 1])
        self.assertEqual(rope(self.SINGLE + [("found", 0, 0), ("found", 1, 0)], 1, 6, 4, THREE), [0, 2, 1, 1, 2])
        firm = [("found", cell, 0) for cell in range(5)]
        before = [("field", 6, 1, 1, 1, 1)] + firm
        self.assertEqual(rope(before, 1, 1, 1, [0, 1, 2, 3, 4, 3, 2, 1, 2, 3, 4, 5]), [0, 11, 1, 1, 5])

    def test_the_first_of_what_is_possible_then(self):
        # 1 is a hole in 01 and in 12.
        row = [("field", 4, 1, 2, 2, 1)]
        self.assertEqual(rope(row, 1, 1, 1, [1]), [0, 0, 1, 2, 0, 1])
        self.assertEqual(rope(row, 1, 1, 1, [2]), [0, 0, 1, 2, 1, 2])
        self.assertEqual(rope(row + [("found", 0, 0)], 1, 1, 1, [1]), [0, 0, 1, 2, 1, 2])
        self.assertEqual(rope(self.DOUBLE, 2, 1, 1, THREE), [0, 1, 2, 2, 0, 1])
        self.assertEqual(rope(self.DOUBLE, 2, 2, 1, THREE), [0, 2, 2, 2, 0, 2])

    def test_holes_beside_the_way_are_told_too(self):
        before = [("field", 3, 2, 2, 2, 2), ("found", 5, 1), ("found", 3, 0), ("found", 4, 0)]
        # 2 and 5; or with 0 and 1 or with 1 and 2.
        self.assertEqual(rope(before, 1, 1, 1, [0, 1]), [0, 0, 1, 4, 0, 1, 2, 5])
        self.assertEqual(rope(before, 1, 1, 1, [1]), [0, 0, 1, 3, 1, 2, 5])

    def test_not_too_much_in_the_first_of_all(self):
        # 0 is possible, and 01; one who falls is too much, but in 0 it comes a time later.
        before = [("field", 2, 1, 1, 2, 1), ("found", 0, 1)]
        self.assertEqual(rope(before, 2, 1, 2, [1, 0]), [0, 0, 1, 2, 0, 1])
        # 01 and 012; the same with two who fall.
        before = [("field", 3, 1, 1, 3, 1), ("found", 0, 1), ("found", 1, 1)]
        self.assertEqual(rope(before, 5, 1, 2, [2, 1, 0]), [0, 1, 2, 3, 0, 1, 2])
        self.assertEqual(rope(before + [("found", 2, 0)], 5, 1, 2, [2, 1, 0]), [0, 2, 2, 2, 0, 1])

    def test_nothing_is_changed(self):
        self.assertEqual(unchanged_by(self.DOUBLE, ("rope", 1, 1, 1, [1])), [0, 0, 1, 1, 1])
        self.assertEqual(unchanged_by(ENDS, ("fewest", 1, 1, THREE)), [2])
        self.assertEqual(unchanged_by(ENDS, ("spacing", 2, 1, THREE)), [1])


class Fewest(unittest.TestCase):
    def fewest(self, before, *call):
        return last(*before, ("fewest",) + call)

    def test_surely_clear(self):
        self.assertEqual(self.fewest(ENDS, 1, 4, [1]), [1])

    def test_the_least(self):
        for hold in range(1, 5):
            self.assertEqual(self.fewest(ONE, 1, hold, [0]), [hold + 1])
            self.assertEqual(self.fewest(ALL_THREE, 3, hold, THREE), [hold + 1])
        self.assertEqual(self.fewest(ALL_THREE, 1, 1, THREE), [6])
        self.assertEqual(self.fewest(ALL_THREE, 2, 1, THREE), [4])
        self.assertEqual(self.fewest(ALL_THREE, 2, 2, THREE), [6])

    def test_nine(self):
        self.assertEqual(self.fewest(ALL_THREE, 1, 2, THREE), [9])

    def test_none(self):
        self.assertEqual(self.fewest(ALL_THREE, 1, 3, THREE), [-9])
        self.assertEqual(self.fewest(ALL_THREE, 2, 4, THREE), [-9])
        self.assertEqual(self.fewest(ALL_SIX, 1, 1, SIX), [-9])

    def test_a_greater_one_is_not_safe_again(self):
        self.assertEqual([rope(ENDS, n, 1, 1, THREE)[0] for n in range(1, 6)], [0, 1, 0, 1, 1])
        self.assertEqual(self.fewest(ENDS, 1, 1, THREE), [2])
        self.assertEqual([rope(APART, n, 2, 1, SIX)[0] for n in range(1, 6)], [0, 1, 0, 1, 1])
        self.assertEqual(self.fewest(APART, 2, 1, SIX), [2])
        self.assertEqual(self.fewest(APART, 1, 2, SIX), [3])

    def test_in_all_that_is_possible(self):
        self.assertEqual(self.fewest([("field", 3, 1, 1, 1, 1)], 1, 1, THREE), [2])
        self.assertEqual(self.fewest([("field", 3, 1, 1, 1, 2)], 1, 1, THREE), [4])
        self.assertEqual(self.fewest([("field", 3, 1, 1, 3, 1)], 1, 1, THREE), [6])


class Spacing(unittest.TestCase):
    def spacing(self, before, *call):
        return last(*before, ("spacing",) + call)

    def test_surely_clear(self):
        self.assertEqual(self.spacing(ENDS, 1, 4, [1]), [1])

    def test_the_least(self):
        self.assertEqual(self.spacing(ALL_THREE, 6, 1, THREE), [1])
        self.assertEqual(self.spacing(ALL_THREE, 4, 1, THREE), [2])
        self.assertEqual(self.spacing(ALL_THREE, 2, 1, THREE), [3])
        self.assertEqual(self.spacing(ALL_THREE, 9, 4, THREE), [3])

    def test_six(self):
        self.assertEqual(self.spacing(ALL_SIX, 2, 1, SIX), [6])

    def test_none(self):
        self.assertEqual(self.spacing(ALL_SIX, 1, 1, SIX), [-9])
        self.assertEqual(self.spacing(ALL_SIX, 2, 1, SIX + [4]), [-9])
        self.assertEqual(self.spacing(ONE, 4, 4, [0]), [-9])

    def test_a_greater_one_is_not_safe_again(self):
        self.assertEqual([rope(ENDS, 2, s, 1, THREE)[0] for s in range(1, 4)], [1, 0, 1])
        self.assertEqual(self.spacing(ENDS, 2, 1, THREE), [1])
        self.assertEqual([rope(APART, 3, s, 1, SIX)[0] for s in range(1, 7)], [1, 0, 1, 0, 1, 1])
        self.assertEqual(self.spacing(APART, 3, 1, SIX), [1])

    def test_in_all_that_is_possible(self):
        self.assertEqual(self.spacing([("field", 3, 1, 1, 1, 1)], 2, 1, THREE), [1])
        self.assertEqual(self.spacing([("field", 3, 1, 1, 1, 2)], 2, 1, THREE), [3])
        self.assertEqual(self.spacing([("field", 3, 1, 1, 2, 1)], 2, 1, THREE), [2])


if __name__ == "__main__":
    unittest.main()
