"""The interface: one list of whole numbers in, one list of whole numbers out."""

import random
import unittest

from ropedparty.crevasses import answers
from tests.helper import Model, ask, flat, parted


class Form(unittest.TestCase):
    LINE = [0, 2, 2, 2, 2, 1, 1, 0, 1, 3, 4, 5, 1, 6, 7, 0, 1, 0, 0, 2, 0, 2, 0, 8, 0, 0]
    TOLD = [1, 5, 1, 2, 3, 2, 0, 1, 2, 2, 0, 3, 2, 1, 2, 5, 4, 1, 2, 2, 0, 3, 2, 0, 1,
            1, -5, 1, 5, 1, -4, 1, -9]

    def test_several_calls_in_one_list(self):
        self.assertEqual(answers(list(self.LINE)), self.TOLD)

    def test_the_list_handed_in_is_as_it_was(self):
        line = list(self.LINE)
        answers(line)
        self.assertEqual(line, self.LINE)

    def test_nothing_is_kept(self):
        self.assertEqual(answers(list(self.LINE)), answers(list(self.LINE)))
        answers(flat(("field", 3, 3, 1, 2, 1), ("found", 4, 1)))
        self.assertEqual(answers([4, 3, 6]), [2, 1, 1, 1, 0, 2, 1, 0])

    def test_what_is_given_back_is_new(self):
        first = answers([6, 3])
        first.append(7)
        self.assertEqual(answers([6, 3]), [2, 1, 0, 1, 0])

    def test_kinds(self):
        told = answers(list(self.LINE))
        self.assertIs(type(told), list)
        self.assertEqual({type(number) for number in told}, {int})
        told = answers(flat(("field", 2, 1, 1, 1, 1), ("count",), ("found", 0, 1), ("count",), ("map",), ("finds",)))
        self.assertEqual({type(number) for number in told}, {int})

    def test_a_refusal_is_its_number_alone(self):
        self.assertEqual(answers([0, 7, 1, 1, 1, 1]), [1, -1])
        self.assertEqual(answers([2, 0, 7, 1, 1, 0, 1]), [1, -4, 1, -4, 1, -6])

    def test_arguments_that_look_like_calls(self):
        self.assertEqual(answers([5, 4, 7, 8, 4]), [1, -1, 1, -4, 2, 1, 1])

    def test_two_hundred_calls(self):
        told = parted(answers(flat(("field", 6, 6, 1, 4, 2), *[("map",)] * 199)))
        self.assertEqual(len(told), 200)
        self.assertEqual(told[199], [36] + [2] * 36)


class AgainstTheModel(unittest.TestCase):
    """Long lines of calls, the same ones each time, right and wrong ones mixed."""

    def chosen_field(self, chance):
        least = chance.randint(1, 4)
        most = chance.randint(least, 4)
        return ("field", chance.randint(1, 4), chance.randint(1, 4), least, most, chance.randint(0, 2))

    def chosen_call(self, chance, cells):
        cell = chance.randint(-1, cells)
        name = chance.choice(["found"] * 6 + ["undo", "finds", "count", "cell", "map", "world", "way", "way"])
        if name == "found":
            return (name, cell, chance.choice([0, 0, 0, 1, 1, 2]))
        if name == "way":
            return (name, cell, chance.randint(0, cells - 1))
        if name == "world":
            return (name, chance.randint(-1, 30))
        return (name, cell) if name in ("undo", "cell") else (name,)

    def test_long_lines(self):
        for seed in range(60):
            chance = random.Random(seed)
            calls = []
            for part in range(4):
                field = self.chosen_field(chance)
                calls.append(field)
                calls += [self.chosen_call(chance, field[1] * field[2]) for step in range(30)]
            model = Model()
            self.assertEqual(ask(*calls), [model.answer(call) for call in calls], seed)


if __name__ == "__main__":
    unittest.main()
