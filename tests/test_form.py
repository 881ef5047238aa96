"""The call form."""

import unittest

from tests.helper import ask, last, unchanged_by


class Form(unittest.TestCase):
    def test_ahead_of_the_first_field(self):
        self.assertEqual(ask(("form",)), [[1, 1, 1, 1, 0]])

    def test_behind_a_field(self):
        for numbers in [(5, 6, 2, 3, 1), (6, 5, 4, 4, 2), (1, 2, 1, 4, 0), (1, 1, 3, 4, 2)]:
            self.assertEqual(last(("field",) + numbers, ("form",)), list(numbers))

    def test_behind_another_field(self):
        told = ask(("field", 5, 6, 2, 3, 1), ("form",), ("field", 2, 3, 1, 4, 2), ("form",))
        self.assertEqual(told[1::2], [[5, 6, 2, 3, 1], [2, 3, 1, 4, 2]])

    def test_behind_a_refused_field(self):
        for wrong in [(7, 3, 1, 2, 1), (3, 0, 1, 2, 1), (3, 3, 5, 5, 1), (3, 3, 3, 2, 1), (3, 3, 1, 2, 3)]:
            told = ask(("field",) + wrong, ("form",), ("field", 5, 6, 2, 3, 1), ("field",) + wrong, ("form",))
            self.assertEqual(told[1], [1, 1, 1, 1, 0])
            self.assertEqual(told[4], [5, 6, 2, 3, 1])

    def test_finds_leave_it(self):
        before = [("field", 4, 1, 2, 2, 1), ("found", 0, 1), ("undo", 0), ("found", 3, 0)]
        self.assertEqual(unchanged_by(before, ("form",)), [4, 1, 2, 2, 1])


if __name__ == "__main__":
    unittest.main()
