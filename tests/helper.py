"""What the tests share: calls by name, and a slow model to compare with."""

from itertools import combinations, combinations_with_replacement

from ropedparty.crevasses import answers

NUMBERS = {
    "field": 0, "found": 1, "undo": 2, "finds": 3, "count": 4,
    "cell": 5, "map": 6, "world": 7, "way": 8,
    "look": 9, "rope": 10, "fewest": 11, "spacing": 12, "cover": 13,
    "plan": 14, "split": 15, "suppose": 16, "form": 17,
}
HUGE = 10 ** 18


def flat(*calls):
    """One list of numbers out of calls such as ("found", 3, 1), ("count",) or ("look", [0, 1])."""
    line = []
    for call in calls:
        line.append(NUMBERS[call[0]])
        for part in call[1:]:
            line.extend([len(part)] + part if isinstance(part, list) else [part])
    return line


def parted(told):
    """The answers, one list a call."""
    out = []
    at = 0
    while at < len(told):
        size = told[at]
        assert size >= 1 and at + 1 + size <= len(told), told
        out.append(told[at + 1:at + 1 + size])
        at += 1 + size
    return out


def ask(*calls):
    """The answers to all the calls, one list a call."""
    out = parted(answers(flat(*calls)))
    assert len(out) == len(calls), (len(out), len(calls))
    return out


def last(*calls):
    """The answer to the last call."""
    return ask(*calls)[-1]


# Everything that tells the state of the object, for fields of up to 36 cells.
STATE = [("form",), ("finds",), ("count",), ("map",), ("world", 0), ("world", 1), ("world", 2)]


def unchanged_by(before, call):
    """The answer to the call, once it's sure that it changes nothing."""
    told = ask(*before, *STATE, call, *STATE)[len(before):]
    size = len(STATE)
    assert told[:size] == told[size + 1:], (before, call)
    return told[size]


# Directions in the order of the document, by their words.
UP, UP_RIGHT, RIGHT, DOWN_RIGHT, DOWN, DOWN_LEFT, LEFT, UP_LEFT = range(8)
COMPASS = {
    UP: (0, -1), UP_RIGHT: (1, -1), RIGHT: (1, 0), DOWN_RIGHT: (1, 1),
    DOWN: (0, 1), DOWN_LEFT: (-1, 1), LEFT: (-1, 0), UP_LEFT: (-1, -1),
}


class Model:
    """The calls by plain sets of cells and whole searches, without any haste."""

    def __init__(self):
        self.start(1, 1, 1, 1, 0)

    def start(self, w, h, least, most, many):
        self.w, self.h = w, h
        self.numbers = [w, h, least, most, many]
        self.finds = []
        rows = []
        for y in range(h):
            for x in range(w):
                for n in range(least, most + 1):
                    across = [(x + i, y) for i in range(n)]
                    down = [(x, y + i) for i in range(n)]
                    rows += [r for r in (across, down) if all(i < w and j < h for i, j in r)]
        sets = {frozenset(y * w + x for x, y in r) for r in rows}
        made = {frozenset()}
        for size in range(1, many + 1):
            for chosen in combinations_with_replacement(sets, size):
                made.add(frozenset().union(*chosen))
        self.made = sorted(made, key=lambda s: sum(2 ** c for c in s))
        self.by_finds = {(): self.made}

    def possible(self):
        finds = tuple(self.finds)
        if finds not in self.by_finds:
            self.by_finds[finds] = [s for s in self.made if all((c in s) == (v == 1) for c, v in finds)]
        return self.by_finds[finds]

    def possible_with(self, cell, v):
        return [s for s in self.possible() if (cell in s) == (v == 1)]

    def inside(self, *cells):
        return all(0 <= c <= self.w * self.h - 1 for c in cells)

    def field(self, w, h, least, most, many):
        good = w in range(1, 7) and h in range(1, 7) and least in range(1, 5)
        if not (good and most in range(least, 5) and many in range(0, 3)):
            return [-1]
        self.start(w, h, least, most, many)
        return [len(self.possible())]

    def found(self, cell, v):
        if not self.inside(cell) or v not in (0, 1):
            return [-1]
        if cell in [c for c, v in self.finds]:
            return [-5]
        if not self.possible_with(cell, v):
            return [-6]
        self.finds.append((cell, v))
        return [len(self.possible())]

    def undo(self, cell):
        if not self.inside(cell):
            return [-1]
        if cell not in [c for c, v in self.finds]:
            return [-4]
        self.finds = [(c, v) for c, v in self.finds if c != cell]
        return [len(self.possible())]

    def tell_finds(self):
        return [2 * len(self.finds)] + [n for find in self.finds for n in find]

    def count(self):
        left = self.possible()
        return [len(left), int(frozenset() in left)]

    def cell(self, cell):
        if not self.inside(cell):
            return [-1]
        left = self.possible()
        with_hole = sum(cell in s for s in left)
        known = 0 if with_hole == 0 else 1 if with_hole == len(left) else 2
        return [known, with_hole, len(left)]

    def tell_map(self):
        cells = range(self.w * self.h)
        return [len(cells)] + [self.cell(c)[0] for c in cells]

    def world(self, k):
        if not 0 <= k <= 100000:
            return [-1]
        left = self.possible()
        return [len(left[k])] + sorted(left[k]) if k < len(left) else [-4]

    def way(self, a, b):
        if not self.inside(a, b):
            return [-1]
        firm = {c for c in range(self.w * self.h) if self.cell(c)[0] == 0}
        # The least directions to each cell, in rounds: a round's are of one length.
        best = {a: ()} if a in firm else {}
        round_now = dict(best)
        while round_now:
            coming = {}
            for at, told in round_now.items():
                for d, (dx, dy) in COMPASS.items():
                    x, y = at % self.w + dx, at // self.w + dy
                    to = y * self.w + x
                    if x in range(self.w) and y in range(self.h) and to in firm and to not in best:
                        coming[to] = min(coming.get(to, (9,)), told + (d,))
            best.update(coming)
            round_now = coming
        return [len(best[b])] + list(best[b]) if b in best else [-9]

    def is_way(self, way):
        if not (1 <= len(way) <= 12 and self.inside(*way)):
            return False
        steps = [(b % self.w - a % self.w, b // self.w - a // self.w) for a, b in zip(way, way[1:])]
        return all(step in COMPASS.values() for step in steps)

    def look(self, way):
        if not self.is_way(way):
            return [-1]
        fallen = [sum(c in s for c in way) for s in self.possible()]
        clear = fallen.count(0)
        return [clear, max(fallen), int(clear in (0, len(fallen)))]

    def too_much(self, n, s, hold, way):
        """The time, how many fall and the holes, or None."""
        struck = [hidden for hidden in self.possible() if not hidden.isdisjoint(way)]
        for t in range(len(way) + n * s):
            places = [t - i * s for i in range(n) if t - i * s in range(len(way))]
            for hidden in struck:
                fallen = sum(way[place] in hidden for place in places)
                if fallen * (hold + 1) > n:
                    return t, fallen, sorted(hidden)
        return None

    def refusal(self, way, ranges, limit):
        if not self.is_way(way) or not all(low <= n <= high for n, low, high in ranges):
            return [-1]
        return [-8] if len(self.possible()) > limit else None

    def rope(self, n, s, hold, way):
        refused = self.refusal(way, [(n, 1, 9), (s, 1, 6), (hold, 1, 4)], 1000)
        if refused:
            return refused
        fall = self.too_much(n, s, hold, way)
        return [1] if fall is None else [0, fall[0], fall[1], len(fall[2])] + fall[2]

    def fewest(self, s, hold, way):
        refused = self.refusal(way, [(s, 1, 6), (hold, 1, 4)], 1000)
        safe = [] if refused else [n for n in range(1, 10) if self.too_much(n, s, hold, way) is None]
        return refused or safe[:1] or [-9]

    def spacing(self, n, hold, way):
        refused = self.refusal(way, [(n, 1, 9), (hold, 1, 4)], 1000)
        safe = [] if refused else [s for s in range(1, 7) if self.too_much(n, s, hold, way) is None]
        return refused or safe[:1] or [-9]

    def not_found(self):
        return [c for c in range(self.w * self.h) if c not in [cell for cell, v in self.finds]]

    def cover(self, way):
        refused = self.refusal(way, [], 600)
        if refused:
            return refused
        left = self.possible()
        if not any(s.isdisjoint(way) for s in left):
            return [-6]
        for size in range(4):
            for cells in combinations(self.not_found(), size):
                firm = [s for s in left if s.isdisjoint(cells)]
                if firm and all(s.isdisjoint(way) for s in firm):
                    return [size] + list(cells)
        return [-9]

    def begins(self, left, cells, way, probes):
        """The cells with which so many probes can begin, if that's enough; [None] if it's settled."""
        if len({s.isdisjoint(way) for s in left}) < 2:
            return [None]
        good = []
        for cell in cells if probes else []:
            others = [c for c in cells if c != cell]
            parts = [[s for s in left if (cell in s) == hole] for hole in (True, False)]
            if all(self.begins(part, others, way, probes - 1) for part in parts):
                good.append(cell)
                # Further in, one is enough.
                if left is not self.possible():
                    break
        return good

    def plan(self, way):
        refused = self.refusal(way, [], 150)
        if refused:
            return refused
        for probes in range(4):
            good = self.begins(self.possible(), self.not_found(), way, probes)
            if good:
                return [probes, min(good)] if probes else [0]
        return [-9]

    def split(self):
        cells = self.not_found()
        if not cells:
            return [-9]
        worst = {c: max(len(self.possible_with(c, v)) for v in (0, 1)) for c in cells}
        cell = min(cells, key=lambda c: (worst[c], c))
        return [cell, worst[cell]]

    def suppose(self, cell, v):
        if not self.inside(cell) or v not in (0, 1):
            return [-1]
        left = self.possible_with(cell, v)
        firm = [c for c in range(self.w * self.h) if all(c not in s for s in left)]
        return [len(left), len(firm) if left else 0]

    def form(self):
        return self.numbers

    def answer(self, call):
        name = {"finds": "tell_finds", "map": "tell_map"}.get(call[0], call[0])
        return getattr(self, name)(*call[1:])
