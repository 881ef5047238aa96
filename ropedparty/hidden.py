"""The hidden fields that crevasses can make, each kept as its number."""


def crevasse(start, step, length):
    """The number of the cells start, start + step, and so on, length of them."""
    number = 0
    for k in range(length):
        number = number | (1 << (start + k * step))
    return number


def crevasses(width, height, least, most):
    """Every crevasse of the field, each once."""
    # A crevasse of one cell lies both side by side and one below another.
    seen = {}
    for length in range(least, most + 1):
        for y in range(height):
            for x in range(width - length + 1):
                seen[crevasse(y * width + x, 1, length)] = True
        for y in range(height - length + 1):
            for x in range(width):
                seen[crevasse(y * width + x, width, length)] = True
    return list(seen)


def hidden_fields(width, height, least, most, many):
    """Every hidden field of at most many crevasses, in the rising order of their numbers."""
    single = crevasses(width, height, least, most)
    seen = {0: True}
    for more in range(many):
        for number in list(seen):
            for added in single:
                seen[number | added] = True
    return sorted(seen)


def agreeing(numbers, cell, value):
    """Those of the hidden fields in which the cell is as told: 0 firm, 1 a hole."""
    return [number for number in numbers if (number >> cell) & 1 == value]


def ever_holes(numbers):
    """The cells that are holes in some of the hidden fields, as one number."""
    ever = 0
    for number in numbers:
        ever = ever | number
    return ever


def holes(number):
    """The cells of a hidden field that are holes, the least first."""
    cells = []
    left = number
    while left > 0:
        # Only the lowest bit stays: this goes from hole to hole, not from cell to cell.
        lowest = left & -left
        cells.append(lowest.bit_length() - 1)
        left = left ^ lowest
    return cells


def hole_counts(numbers, cell_count):
    """For each cell, in how many of the hidden fields it's a hole."""
    counts = [0] * cell_count
    for number in numbers:
        for cell in holes(number):
            counts[cell] += 1
    return counts


def cells_number(cells):
    """The number of the hidden field whose holes are these cells; one may stand there twice."""
    number = 0
    for cell in cells:
        number = number | (1 << cell)
    return number
