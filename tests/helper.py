"""What the tests share: calls by name, and a slow model to compare with."""

from itertools import combinations_with_replacement

from ropedparty.crevasses import answers

NUMBERS = {
    "field": 0, "found": 1, "undo": 2, "finds": 3, "count": 4,
    "cell": 5, "map": 6, "world": 7, "way": 8,
}
HUGE = 10 ** 18


def flat(*calls):
    """One list of numbers out of calls such as ("found", 3, 1) or ("count",)."""
    line = []
    for call in calls:
        line.append(NUMBERS[call[0]])
        line.extend(call[1:])
    return line


def parted(told):
    """The answers, one list a call."""
    out = []
    at = 0
    while at < len(told):
        size = told[at]
        assert size >= 1 and at + 1 + size <= len(told), told
        out.append(told[at + 1:at + 1 + size])
        at += 1 + size
    return out


def ask(*calls):
    """The answers to all the calls, one list a call."""
    out = parted(answers(flat(*calls)))
    assert len(out) == len(calls), (len(out), len(calls))
    return out


def last(*calls):
    """The answer to the last call."""
    return ask(*calls)[-1]


# Everything that tells the state of the object, for fields of up to 36 cells.
STATE = [("finds",), ("count",), ("map",), ("world", 0), ("world", 1), ("world", 2)]

# Directions in the order of the document, by their words.
UP, UP_RIGHT, RIGHT, DOWN_RIGHT, DOWN, DOWN_LEFT, LEFT, UP_LEFT = range(8)
COMPASS = {
    UP: (0, -1), UP_RIGHT: (1, -1), RIGHT: (1, 0), DOWN_RIGHT: (1, 1),
    DOWN: (0, 1), DOWN_LEFT: (-1, 1), LEFT: (-1, 0), UP_LEFT: (-1, -1),
}


class Model:
    """The calls by plain sets of cells and whole searches, without any haste."""

    def __init__(self):
        self.start(1, 1, 1, 1, 0)

    def start(self, w, h, least, most, many):
        self.w, self.h = w, h
        self.finds = []
        rows = []
        for y in range(h):
            for x in range(w):
                for n in range(least, most + 1):
                    across = [(x + i, y) for i in range(n)]
                    down = [(x, y + i) for i in range(n)]
                    rows += [r for r in (across, down) if all(i < w and j < h for i, j in r)]
        sets = {frozenset(y * w + x for x, y in r) for r in rows}
        made = {frozenset()}
        for size in range(1, many + 1):
            for chosen in combinations_with_replacement(sets, size):
                made.add(frozenset().union(*chosen))
        self.made = sorted(made, key=lambda s: sum(2 ** c for c in s))

    def possible(self, more=()):
        finds = self.finds + list(more)
        return [s for s in self.made if all((c in s) == (v == 1) for c, v in finds)]

    def inside(self, *cells):
        return all(0 <= c <= self.w * self.h - 1 for c in cells)

    def field(self, w, h, least, most, many):
        good = w in range(1, 7) and h in range(1, 7) and least in range(1, 5)
        if not (good and most in range(least, 5) and many in range(0, 3)):
            return [-1]
        self.start(w, h, least, most, many)
        return [len(self.possible())]

    def found(self, cell, v):
        if not self.inside(cell) or v not in (0, 1):
            return [-1]
        if cell in [c for c, v in self.finds]:
            return [-5]
        if not self.possible([(cell, v)]):
            return [-6]
        self.finds.append((cell, v))
        return [len(self.possible())]

    def undo(self, cell):
        if not self.inside(cell):
            return [-1]
        if cell not in [c for c, v in self.finds]:
            return [-4]
        self.finds = [(c, v) for c, v in self.finds if c != cell]
        return [len(self.possible())]

    def tell_finds(self):
        return [2 * len(self.finds)] + [n for find in self.finds for n in find]

    def count(self):
        left = self.possible()
        return [len(left), int(frozenset() in left)]

    def cell(self, cell):
        if not self.inside(cell):
            return [-1]
        left = self.possible()
        with_hole = sum(cell in s for s in left)
        known = 0 if with_hole == 0 else 1 if with_hole == len(left) else 2
        return [known, with_hole, len(left)]

    def tell_map(self):
        cells = range(self.w * self.h)
        return [len(cells)] + [self.cell(c)[0] for c in cells]

    def world(self, k):
        if not 0 <= k <= 100000:
            return [-1]
        left = self.possible()
        return [len(left[k])] + sorted(left[k]) if k < len(left) else [-4]

    def way(self, a, b):
        if not self.inside(a, b):
            return [-1]
        firm = {c for c in range(self.w * self.h) if self.cell(c)[0] == 0}
        # The least directions to each cell, in rounds: a round's are of one length.
        best = {a: ()} if a in firm else {}
        round_now = dict(best)
        while round_now:
            coming = {}
            for at, told in round_now.items():
                for d, (dx, dy) in COMPASS.items():
                    x, y = at % self.w + dx, at // self.w + dy
                    to = y * self.w + x
                    if x in range(self.w) and y in range(self.h) and to in firm and to not in best:
                        coming[to] = min(coming.get(to, (9,)), told + (d,))
            best.update(coming)
            round_now = coming
        return [len(best[b])] + list(best[b]) if b in best else [-9]

    def answer(self, call):
        name = {"finds": "tell_finds", "map": "tell_map"}.get(call[0], call[0])
        return getattr(self, name)(*call[1:])
