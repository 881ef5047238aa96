"""Which cells should be probed, and how many at least.

A set of what's possible is kept here as a number: a bit for each hidden field, by its place in their order.
"""

from ropedparty.hidden import holes

MOST_PROBES = 3


def fields_with_hole(possible, cells):
    """For each of the cells, in their order, the set of those possible in which it's a hole."""
    with_hole = {}
    for cell in cells:
        with_hole[cell] = 0
    for place, number in enumerate(possible):
        for cell in holes(number):
            if cell in with_hole:
                with_hole[cell] = with_hole[cell] | (1 << place)
    return with_hole


def fields_not_clear(possible, way):
    """The set of those possible in which the way isn't clear."""
    struck = 0
    for one in fields_with_hole(possible, way).values():
        struck = struck | one
    return struck


def cover_from(firm, struck, left, start, size):
    """The first such cells from the place start on, so many of them, or None; firm has (cell, where it's firm)."""
    if size == 0:
        return [] if left & struck == 0 else None
    for place in range(start, len(firm)):
        still_left = left & firm[place][1]
        # In nothing possible all of these cells are firm.
        if still_left == 0:
            continue
        others = cover_from(firm, struck, still_left, place + 1, size - 1)
        if others is not None:
            return [firm[place][0]] + others
    return None


def least_cover(possible, cells, way):
    """The fewest cells that, all of them firm, make the way clear; None if it takes more than MOST_PROBES."""
    everything = (1 << len(possible)) - 1
    struck = fields_not_clear(possible, way)
    firm = [(cell, everything ^ hole) for cell, hole in fields_with_hole(possible, cells).items()]
    for size in range(MOST_PROBES + 1):
        cover = cover_from(firm, struck, everything, 0, size)
        if cover is not None:
            return cover
    return None


def is_settled(struck, left):
    both = left & struck
    return both == 0 or both == left


def is_enough(with_hole, struck, left, probes):
    """Whether so many probes settle the way if what's left is possible."""
    if is_settled(struck, left):
        return True
    return probes > 0 and first_probe(with_hole, struck, left, probes) is not None


def first_probe(with_hole, struck, left, probes):
    """The least cell from which on so many probes settle the way, it among them, or None."""
    for cell, hole in with_hole.items():
        if_hole = left & hole
        # What a probe is sure to find tells nothing.
        if if_hole == 0 or if_hole == left:
            continue
        if not is_enough(with_hole, struck, if_hole, probes - 1):
            continue
        if is_enough(with_hole, struck, left ^ if_hole, probes - 1):
            return cell
    return None


def least_plan(possible, cells, way):
    """The least number of probes and, if it isn't 0, the first cell; None if it takes more than MOST_PROBES."""
    everything = (1 << len(possible)) - 1
    struck = fields_not_clear(possible, way)
    if is_settled(struck, everything):
        return [0]
    with_hole = fields_with_hole(possible, cells)
    for probes in range(1, MOST_PROBES + 1):
        cell = first_probe(with_hole, struck, everything, probes)
        if cell is not None:
            return [probes, cell]
    return None


def best_split(counts, total, cells):
    """The cell whose probe leaves the fewest possible at worst, and how many; counts tells the holes of each cell."""
    best = None
    for cell in cells:
        at_worst = max(counts[cell], total - counts[cell])
        if best is None or at_worst < best[1]:
            best = [cell, at_worst]
    return best
