"""The interface: one list of whole numbers in, one list of whole numbers out."""

import unittest

from ropedparty.crevasses import answers
from tests.helper import flat, parted


class Form(unittest.TestCase):
    LINE = [0, 2, 2, 2, 2, 1, 1, 0, 1, 3, 4, 5, 1, 6, 7, 0, 1, 0, 0, 2, 0, 2, 0, 8, 0, 0]
    TOLD = [1, 5, 1, 2, 3, 2, 0, 1, 2, 2, 0, 3, 2, 1, 2, 5, 4, 1, 2, 2, 0, 3, 2, 0, 1,
            1, -5, 1, 5, 1, -4, 1, -9]

    def test_several_calls_in_one_list(self):
        self.assertEqual(answers(list(self.LINE)), self.TOLD)

    def test_the_list_handed_in_is_as_it_was(self):
        line = list(self.LINE)
        answers(line)
        self.assertEqual(line, self.LINE)

    def test_nothing_is_kept(self):
        self.assertEqual(answers(list(self.LINE)), answers(list(self.LINE)))
        answers(flat(("field", 3, 3, 1, 2, 1), ("found", 4, 1)))
        self.assertEqual(answers([4, 3, 6]), [2, 1, 1, 1, 0, 2, 1, 0])

    def test_what_is_given_back_is_new(self):
        first = answers([6, 3])
        first.append(7)
        self.assertEqual(answers([6, 3]), [2, 1, 0, 1, 0])

    def test_kinds(self):
        told = answers(list(self.LINE))
        self.assertIs(type(told), list)
        self.assertEqual({type(number) for number in told}, {int})
        told = answers(flat(("field", 2, 1, 1, 1, 1), ("count",), ("found", 0, 1), ("count",), ("map",), ("finds",)))
        self.assertEqual({type(number) for number in told}, {int})

    def test_a_refusal_is_its_number_alone(self):
        self.assertEqual(answers([0, 7, 1, 1, 1, 1]), [1, -1])
        self.assertEqual(answers([2, 0, 7, 1, 1, 0, 1]), [1, -4, 1, -4, 1, -6])

    def test_arguments_that_look_like_calls(self):
        self.assertEqual(answers([5, 4, 7, 8, 4]), [1, -1, 1, -4, 2, 1, 1])

    def test_calls_with_a_way(self):
        self.assertEqual(answers([0, 4, 1, 2, 2, 1, 9, 2, 0, 1, 17]), [1, 4, 3, 2, 2, 0, 5, 4, 1, 2, 2, 1])
        self.assertEqual(answers([0, 4, 1, 2, 2, 1, 10, 1, 2, 3, 1, 1, 4]), [1, 4, 6, 0, 0, 1, 2, 0, 1, 2, 4, 1])
        self.assertEqual(answers([0, 4, 1, 2, 2, 1, 11, 2, 3, 1, 1, 12, 4, 3, 1, 1]), [1, 4, 1, 4, 1, 1])
        self.assertEqual(answers([0, 4, 1, 2, 2, 1, 13, 2, 1, 2, 14, 2, 1, 2]), [1, 4, 3, 2, 0, 2, 2, 2, 0])
        self.assertEqual(answers([0, 4, 1, 2, 2, 1, 15, 16, 1, 0, 4]), [1, 4, 2, 1, 2, 2, 2, 2, 2, 4, 1])
        self.assertEqual(answers([10, 1, 1, 1, 1, 0, 14, 1, 0]), [1, 1, 1, 0])

    def test_a_way_of_none_and_of_sixteen(self):
        numbers = [9, 10, 11, 12, 13, 14, 15, 16, 17, 0, 1, 2, 3, 4, 5, 6]
        for call in ([9], [10, 1, 1, 1], [11, 1, 1], [12, 1, 1], [13], [14]):
            self.assertEqual(answers(call + [0, 17]), [1, -1, 5, 1, 1, 1, 1, 0])
            self.assertEqual(answers(call + [16] + numbers + [17]), [1, -1, 5, 1, 1, 1, 1, 0])
            self.assertEqual(answers(call + [13] + numbers[:13] + [17]), [1, -1, 5, 1, 1, 1, 1, 0])

    def test_a_refused_argument_leaves_the_way_to_be_skipped(self):
        self.assertEqual(answers([10, 0, 0, 0, 3, 17, 4, 6, 17]), [1, -1, 5, 1, 1, 1, 1, 0])
        self.assertEqual(answers([11, 7, 5, 2, 4, 4, 12, 10, 5, 1, 3, 4]), [1, -1, 1, -1, 2, 1, 1])

    def test_two_hundred_calls(self):
        told = parted(answers(flat(("field", 6, 6, 1, 4, 2), *[("map",)] * 199)))
        self.assertEqual(len(told), 200)
        self.assertEqual(told[199], [36] + [2] * 36)


if __name__ == "__main__":
    unittest.main()
