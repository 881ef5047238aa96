"""Answers the calls on one field of crevasses."""

from ropedparty.crossing import clear_fields
from ropedparty.crossing import Crossing
from ropedparty.glacier import Glacier
from ropedparty.hidden import agreeing
from ropedparty.hidden import ever_holes
from ropedparty.hidden import holes
from ropedparty.probes import best_split
from ropedparty.probes import least_cover
from ropedparty.probes import least_plan
from ropedparty.ways import is_way
from ropedparty.ways import shortest_way

OUT_OF_RANGE = -1
NOT_THERE = -4
FOUND_ALREADY = -5
NONE_AGREES = -6
TOO_MANY = -8
NONE_THERE = -9

LAST_WORLD = 100000
MOST_MEMBERS = 9
MOST_SPACING = 6


def within(lows, numbers, highs):
    return all([low <= number <= high for low, number, high in zip(lows, numbers, highs)])


def is_field(numbers):
    # The range of most begins at least, which stands ahead of it.
    return within((1, 1, 1, numbers[2], 0), numbers, (6, 6, 4, 4, 2))


def answer_field(glacier, numbers):
    if not is_field(numbers):
        return [OUT_OF_RANGE]
    glacier.lay(numbers[0], numbers[1], numbers[2], numbers[3], numbers[4])
    return [len(glacier.possible)]


def is_find(glacier, numbers):
    """Whether the numbers are a cell and what can be found there."""
    return glacier.has_cell(numbers[0]) and 0 <= numbers[1] <= 1


def answer_found(glacier, numbers):
    if not is_find(glacier, numbers):
        return [OUT_OF_RANGE]
    cell = numbers[0]
    value = numbers[1]
    if cell in glacier.finds:
        return [FOUND_ALREADY]
    if len(agreeing(glacier.possible, cell, value)) == 0:
        return [NONE_AGREES]
    glacier.add_find(cell, value)
    return [len(glacier.possible)]


def answer_undo(glacier, numbers):
    cell = numbers[0]
    if not glacier.has_cell(cell):
        return [OUT_OF_RANGE]
    if cell not in glacier.finds:
        return [NOT_THERE]
    glacier.drop_find(cell)
    return [len(glacier.possible)]


def answer_finds(glacier, numbers):
    told = []
    for cell, value in glacier.finds.items():
        told.append(cell)
        told.append(value)
    return [len(told)] + told


def answer_count(glacier, numbers):
    return [len(glacier.possible), 1 if 0 in glacier.possible else 0]


def answer_cell(glacier, numbers):
    cell = numbers[0]
    if not glacier.has_cell(cell):
        return [OUT_OF_RANGE]
    known = glacier.knowledge()
    with_hole = agreeing(glacier.possible, cell, 1)
    return [known[cell], len(with_hole), len(glacier.possible)]


def answer_map(glacier, numbers):
    known = glacier.knowledge()
    return [len(known)] + known


def answer_world(glacier, numbers):
    k = numbers[0]
    if not 0 <= k <= LAST_WORLD:
        return [OUT_OF_RANGE]
    if k >= len(glacier.possible):
        return [NOT_THERE]
    cells = holes(glacier.possible[k])
    return [len(cells)] + cells


def answer_way(glacier, numbers):
    start = numbers[0]
    goal = numbers[1]
    if not glacier.has_cell(start) or not glacier.has_cell(goal):
        return [OUT_OF_RANGE]
    directions = shortest_way(glacier.width, glacier.height, glacier.surely_firm(), start, goal)
    if directions is None:
        return [NONE_THERE]
    return [len(directions)] + directions


def answer_look(glacier, numbers, way):
    total = len(glacier.possible)
    clear = len(clear_fields(glacier.possible, way))
    most = Crossing(glacier.possible, way).most_holes()
    return [clear, most, 1 if clear == 0 or clear == total else 0]


def answer_rope(glacier, numbers, way):
    crossing = Crossing(glacier.possible, way)
    fall = crossing.first_fall(numbers[0], numbers[1], numbers[2])
    if fall is None:
        return [1]
    cells = holes(fall[2])
    return [0, fall[0], fall[1], len(cells)] + cells


def answer_fewest(glacier, numbers, way):
    crossing = Crossing(glacier.possible, way)
    for members in range(1, MOST_MEMBERS + 1):
        if crossing.is_safe(members, numbers[0], numbers[1]):
            return [members]
    return [NONE_THERE]


def answer_spacing(glacier, numbers, way):
    crossing = Crossing(glacier.possible, way)
    for spacing in range(1, MOST_SPACING + 1):
        if crossing.is_safe(numbers[0], spacing, numbers[1]):
            return [spacing]
    return [NONE_THERE]


def answer_cover(glacier, numbers, way):
    if len(clear_fields(glacier.possible, way)) == 0:
        return [NONE_AGREES]
    cells = least_cover(glacier.possible, glacier.cells_to_probe(), way)
    if cells is None:
        return [NONE_THERE]
    return [len(cells)] + cells


def answer_plan(glacier, numbers, way):
    plan = least_plan(glacier.possible, glacier.cells_to_probe(), way)
    if plan is None:
        return [NONE_THERE]
    return plan


def answer_split(glacier, numbers):
    cells = glacier.cells_to_probe()
    if len(cells) == 0:
        return [NONE_THERE]
    return best_split(glacier.counted_holes(), len(glacier.possible), cells)


def answer_suppose(glacier, numbers):
    if not is_find(glacier, numbers):
        return [OUT_OF_RANGE]
    left = agreeing(glacier.possible, numbers[0], numbers[1])
    if len(left) == 0:
        return [0, 0]
    return [len(left), glacier.cell_count() - len(holes(ever_holes(left)))]


def answer_form(glacier, numbers):
    return [glacier.width, glacier.height, glacier.least, glacier.most, glacier.many]


# For each call's number: how many whole numbers it has, and what answers it.
CALLS = {
    0: (5, answer_field),
    1: (2, answer_found),
    2: (1, answer_undo),
    3: (0, answer_finds),
    4: (0, answer_count),
    5: (1, answer_cell),
    6: (0, answer_map),
    7: (1, answer_world),
    8: (2, answer_way),
    15: (0, answer_split),
    16: (2, answer_suppose),
    17: (0, answer_form),
}

# For each number of a call on a way: the greatest of its whole numbers (the least are 1),
# with how many possible at most it's answered (None: always), and what answers it.
WAY_CALLS = {
    9: ((), None, answer_look),
    10: ((9, 6, 4), 1000, answer_rope),
    11: ((6, 4), 1000, answer_fewest),
    12: ((9, 4), 1000, answer_spacing),
    13: ((), 600, answer_cover),
    14: ((), 150, answer_plan),
}


def answer_on_way(glacier, call, numbers, way):
    """The answer to a call of WAY_CALLS; what they refuse alike is looked at here."""
    highs = WAY_CALLS[call][0]
    limit = WAY_CALLS[call][1]
    action = WAY_CALLS[call][2]
    if not within([1] * len(highs), numbers, highs) or not is_way(glacier.width, glacier.height, way):
        return [OUT_OF_RANGE]
    if limit is not None and len(glacier.possible) > limit:
        return [TOO_MANY]
    return action(glacier, numbers, way)


def answers(calls):
    """The answers to all the calls, each with how many numbers it has before it."""
    glacier = Glacier()
    told = []
    at = 0
    while at < len(calls):
        call = calls[at]
        start = at + 1
        if call in WAY_CALLS:
            middle = start + len(WAY_CALLS[call][0])
            # Between the whole numbers and the way stands how many numbers the way has.
            at = middle + 1 + calls[middle]
            answer = answer_on_way(glacier, call, calls[start:middle], calls[middle + 1:at])
        else:
            at = start + CALLS[call][0]
            action = CALLS[call][1]
            answer = action(glacier, calls[start:at])
        told.append(len(answer))
        told.extend(answer)
    return told
