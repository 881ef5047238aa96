"""Answers the calls on one field of crevasses."""

from ropedparty.glacier import Glacier
from ropedparty.hidden import agreeing
from ropedparty.hidden import holes
from ropedparty.ways import shortest_way

OUT_OF_RANGE = -1
NOT_THERE = -4
FOUND_ALREADY = -5
NONE_AGREES = -6
NO_WAY = -9

LAST_WORLD = 100000


def is_field(numbers):
    # The range of most begins at least, which stands ahead of it.
    lows = (1, 1, 1, numbers[2], 0)
    highs = (6, 6, 4, 4, 2)
    return all([low <= number <= high for low, number, high in zip(lows, numbers, highs)])


def answer_field(glacier, numbers):
    if not is_field(numbers):
        return [OUT_OF_RANGE]
    glacier.lay(numbers[0], numbers[1], numbers[2], numbers[3], numbers[4])
    return [len(glacier.possible)]


def answer_found(glacier, numbers):
    cell = numbers[0]
    value = numbers[1]
    if not glacier.has_cell(cell) or not 0 <= value <= 1:
        return [OUT_OF_RANGE]
    if cell in glacier.finds:
        return [FOUND_ALREADY]
    if len(agreeing(glacier.possible, cell, value)) == 0:
        return [NONE_AGREES]
    glacier.add_find(cell, value)
    return [len(glacier.possible)]


def answer_undo(glacier, numbers):
    cell = numbers[0]
    if not glacier.has_cell(cell):
        return [OUT_OF_RANGE]
    if cell not in glacier.finds:
        return [NOT_THERE]
    glacier.drop_find(cell)
    return [len(glacier.possible)]


def answer_finds(glacier, numbers):
    told = []
    for cell, value in glacier.finds.items():
        told.append(cell)
        told.append(value)
    return [len(told)] + told


def answer_count(glacier, numbers):
    return [len(glacier.possible), 1 if 0 in glacier.possible else 0]


def answer_cell(glacier, numbers):
    cell = numbers[0]
    if not glacier.has_cell(cell):
        return [OUT_OF_RANGE]
    known = glacier.knowledge()
    with_hole = agreeing(glacier.possible, cell, 1)
    return [known[cell], len(with_hole), len(glacier.possible)]


def answer_map(glacier, numbers):
    known = glacier.knowledge()
    return [len(known)] + known


def answer_world(glacier, numbers):
    k = numbers[0]
    if not 0 <= k <= LAST_WORLD:
        return [OUT_OF_RANGE]
    if k >= len(glacier.possible):
        return [NOT_THERE]
    cells = holes(glacier.possible[k])
    return [len(cells)] + cells


def answer_way(glacier, numbers):
    start = numbers[0]
    goal = numbers[1]
    if not glacier.has_cell(start) or not glacier.has_cell(goal):
        return [OUT_OF_RANGE]
    directions = shortest_way(glacier.width, glacier.height, glacier.surely_firm(), start, goal)
    if directions is None:
        return [NO_WAY]
    return [len(directions)] + directions


# For each call's number: how many whole numbers it has, and what answers it.
CALLS = {
    0: (5, answer_field),
    1: (2, answer_found),
    2: (1, answer_undo),
    3: (0, answer_finds),
    4: (0, answer_count),
    5: (1, answer_cell),
    6: (0, answer_map),
    7: (1, answer_world),
    8: (2, answer_way),
}


def answers(calls):
    """The answers to all the calls, each with how many numbers it has before it."""
    glacier = Glacier()
    told = []
    at = 0
    while at < len(calls):
        size = CALLS[calls[at]][0]
        action = CALLS[calls[at]][1]
        answer = action(glacier, calls[at + 1:at + 1 + size])
        told.append(len(answer))
        told.extend(answer)
        at += 1 + size
    return told
