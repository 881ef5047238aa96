"""Long lines that mix all 18 calls, right and wrong ones, the same ones each time."""

import random
import unittest

from ropedparty.crevasses import answers
from tests.helper import COMPASS, HUGE, NUMBERS, Model, flat, parted

LAYING = ("field", "undo")
LONG = ("rope", "fewest", "spacing", "cover", "plan")
OTHERS = [name for name in NUMBERS if name not in LAYING + LONG]
GREATEST = (6, 6, 1, 4, 2)


class Line:
    """One line of calls, of at most as many of each sort as the document allows."""

    def __init__(self, seed, fields):
        self.chance = random.Random(seed)
        self.calls = []
        self.left = {LAYING: 20, LONG: 20}
        self.lay(self.chance.choice(fields))

    def lay(self, numbers):
        self.calls.append(("field",) + numbers)
        self.left[LAYING] -= 1
        self.w, self.h = numbers[:2]
        made = Model()
        made.start(*numbers)
        # What really lies there, so that the finds agree with one another.
        self.truth = self.chance.choice(made.made)
        self.order = self.chance.sample(range(self.w * self.h), self.w * self.h)
        self.order = sorted(self.order, key=lambda cell: self.chance.random() < 0.6 and cell not in self.truth)

    def cell(self):
        wrong = self.chance.random() < 0.04
        count = self.w * self.h
        return self.chance.choice([-1, count, HUGE, -HUGE]) if wrong else self.chance.randrange(count)

    def way(self, size):
        cells = [self.chance.randrange(self.w * self.h)]
        while len(cells) < size and self.w * self.h > 1:
            dx, dy = self.chance.choice(list(COMPASS.values()))
            x, y = cells[-1] % self.w + dx, cells[-1] // self.w + dy
            if x in range(self.w) and y in range(self.h):
                cells.append(y * self.w + x)
        if self.chance.random() < 0.05:
            cells[self.chance.randrange(len(cells))] = self.cell()
        return cells

    def size(self):
        return self.chance.choice([1, 2, 3, 4, 5, 6, 8, 12, 12, 12, self.chance.randint(13, 16)])

    def numbers(self, name):
        up_to = {"rope": (9, 6, 4), "fewest": (6, 4), "spacing": (9, 4)}.get(name, ())
        drawn = [self.chance.randint(1, high) for high in up_to]
        if drawn and self.chance.random() < 0.05:
            drawn[0] = self.chance.choice([0, up_to[0] + 1, -HUGE])
        return tuple(drawn)

    def found(self):
        if self.chance.random() < 0.7 and self.order:
            cell = self.order.pop(0)
            return ("found", cell, int(cell in self.truth))
        return ("found", self.cell(), self.chance.choice([0, 0, 0, 1, 2, -1]))

    def add(self, name):
        if name in LAYING + LONG:
            sort = LAYING if name in LAYING else LONG
            if self.left[sort] == 0:
                return
            self.left[sort] -= 1
        if name == "found":
            self.calls.append(self.found())
        elif name == "look" or name in LONG:
            self.calls.append((name,) + self.numbers(name) + (self.way(self.size()),))
        elif name == "suppose":
            self.calls.append((name, self.cell(), self.chance.choice([0, 1, 1, 2])))
        elif name == "world":
            self.calls.append((name, self.chance.choice([-1, 0, 1, 5, 40, 700, 5000, 100000, 100001])))
        elif name == "way":
            self.calls.append((name, self.cell(), self.cell()))
        else:
            self.calls.append((name, self.cell()) if name in ("undo", "cell") else (name,))

    def fill(self, size, fields, often):
        """Add calls until there are so many; often: names that come more often than the others."""
        names = OTHERS + ["undo"] + often
        while len(self.calls) < size:
            drawn = self.chance.random()
            if drawn < 0.04 and self.left[LAYING] > 0:
                self.lay(self.chance.choice(fields))
            else:
                self.add(self.chance.choice(LONG if drawn > 0.88 else names))
        return self.calls


def small_fields():
    return [(w, h, least, most, many) for w in range(1, 6) for h in range(1, 5)
            for least in range(1, 4) for most in range(least, 5) for many in (1, 2)]


class Lines(unittest.TestCase):
    def assert_answered(self, calls, seed):
        line = flat(*calls)
        self.assertLessEqual(len(line), 16000)
        handed_in = list(line)
        told = answers(handed_in)
        self.assertEqual(handed_in, line, seed)
        model = Model()
        parts = parted(told)
        self.assertEqual(len(parts), len(calls), seed)
        for call, part in zip(calls, parts):
            self.assertEqual(part, model.answer(call), (seed, call))
        self.assertEqual(answers(handed_in), told, seed)
        return parts

    def test_small_fields(self):
        seen = set()
        fields = small_fields()
        for seed in range(60):
            calls = Line(seed, fields).fill(200, fields, ["found"] * 3)
            for call, part in zip(calls, self.assert_answered(calls, seed)):
                seen.add((call[0], min(part[0], 3)))
        # The lines are worth their while: every call was answered, and refused in each of its ways.
        wanted = [("cover", n) for n in (-9, -6, -1, 0, 1, 2, 3)] + [("plan", n) for n in (-9, -8, -1, 0, 1, 2, 3)]
        wanted += [("rope", n) for n in (-1, 0, 1)] + [("fewest", n) for n in (-9, -1, 1, 2, 3)]
        wanted += [("spacing", n) for n in (-9, -1, 1, 2, 3)] + [("split", -9), ("suppose", 0), ("suppose", -1)]
        self.assertEqual([pair for pair in wanted if pair not in seen], [])
        self.assertEqual({name for name, first in seen}, set(NUMBERS))

    def test_the_greatest_fields(self):
        seen = set()
        for seed in range(6):
            calls = Line(seed, [GREATEST]).fill(200, [GREATEST], ["found"] * 12)
            for call, part in zip(calls, self.assert_answered(calls, seed)):
                seen.add((call[0], part[0]))
        for name in ("rope", "fewest", "spacing", "cover", "plan"):
            self.assertIn((name, -8), seen)
            self.assertTrue(any(first >= 0 for other, first in seen if other == name), name)
        self.assertEqual({name for name, first in seen}, set(NUMBERS))

    def test_as_many_as_may_be_asked(self):
        # Twenty times ten calls: a greatest field, cells found till few enough are possible, one long call.
        chance = random.Random(7)
        snake = [0, 1, 2, 3, 4, 5, 11, 10, 9, 8, 7, 6]
        there_and_back = [14, 15, 21, 20] * 3
        calls = []
        for part in range(20):
            way = chance.choice([snake, there_and_back])
            name = LONG[part % 5]
            numbers = {"rope": (9, 1, 4), "fewest": (1, 1), "spacing": (9, 4)}.get(name, ())
            first, second, third = chance.choice([(28, 30, 35), (8, 22, 2), (15, 33, 18), (0, 24, 3)])
            calls += [("field",) + GREATEST, ("found", first, 1), ("found", second, 1), ("split",),
                      ("found", third, 0), ("map",), ("look", way), (name,) + numbers + (way,),
                      ("suppose", 16, part % 2), ("way", 12, 17)]
        self.assertEqual(len(calls), 200)
        parts = self.assert_answered(calls, 7)
        self.assertGreater(len([part for part in parts[7::10] if part != [-8]]), 15)

    def test_fields_of_all_sizes(self):
        fields = [(w, h, least, most, many) for w in (1, 3, 5, 6) for h in (1, 4, 6)
                  for least, most in ((1, 1), (1, 2), (2, 3), (2, 4), (4, 4)) for many in (0, 1, 2)]
        for seed in range(20):
            self.assert_answered(Line(seed, fields).fill(200, fields, ["found"] * 4), seed)


if __name__ == "__main__":
    unittest.main()
