"""Ways: told by their cells, and over firm cells by their directions."""

LONGEST_WAY = 12

# To the right and downwards, for the directions 0 to 7.
STEPS = ((0, -1), (1, -1), (1, 0), (1, 1), (0, 1), (-1, 1), (-1, 0), (-1, -1))


def neighbour(width, height, cell, direction):
    """The cell that the direction leads to, or None beyond the field's edge."""
    x = cell % width + STEPS[direction][0]
    y = cell // width + STEPS[direction][1]
    if 0 <= x < width and 0 <= y < height:
        return y * width + x
    return None


def leads_on(width, height, cell, other):
    """Whether some direction leads from the cell to the other one."""
    return any([neighbour(width, height, cell, direction) == other for direction in range(len(STEPS))])


def is_way(width, height, cells):
    """Whether the numbers are the cells of a way in the field."""
    if not 1 <= len(cells) <= LONGEST_WAY:
        return False
    if not all([0 <= cell < width * height for cell in cells]):
        return False
    return all([leads_on(width, height, cell, other) for cell, other in zip(cells, cells[1:])])


def distances(width, height, firm, goal):
    """For each firm cell with a way to the goal, the fewest directions of one."""
    far = {goal: 0}
    reached = [goal]
    at = 0
    while at < len(reached):
        cell = reached[at]
        at += 1
        for direction in range(len(STEPS)):
            other = neighbour(width, height, cell, direction)
            if other in firm and other not in far:
                far[other] = far[cell] + 1
                reached.append(other)
    return far


def least_direction(width, height, far, cell):
    """The least direction from the cell that comes nearer to the goal."""
    for direction in range(len(STEPS)):
        other = neighbour(width, height, cell, direction)
        if other in far and far[other] < far[cell]:
            return direction
    return None


def shortest_way(width, height, firm, start, goal):
    """The directions of the way that is asked for, or None if there is no way."""
    if start not in firm or goal not in firm:
        return None
    # Counted from the goal, so that each step ahead can be the least good one.
    far = distances(width, height, firm, goal)
    if start not in far:
        return None
    directions = []
    cell = start
    while cell != goal:
        direction = least_direction(width, height, far, cell)
        directions.append(direction)
        cell = neighbour(width, height, cell, direction)
    return directions
