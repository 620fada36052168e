"""What the tests share: calls told by name, answers cut apart, and a slow second way to every answer."""

from postroads.desk import answers

FAR_BELOW = -10 ** 18
FAR_ABOVE = 10 ** 18

NAMES = ("begin", "road", "need", "cost", "bar", "reach", "distance", "tree", "order", "blind")


def flat(calls):
    """The calls, each a tuple of its name and its numbers, as the one list that is handed in."""
    numbers = []
    for call in calls:
        numbers.append(NAMES.index(call[0]))
        numbers.extend(call[1:])
    return numbers


def cut(given, count):
    """What is given back, cut into one list for each of so many calls."""
    parts = []
    at = 0
    while at < len(given):
        parts.append(given[at + 1:at + 1 + given[at]])
        assert len(parts[-1]) == given[at], "fewer numbers than told"
        at += 1 + given[at]
    assert len(parts) == count, "one answer for each call"
    return parts


def replies(*calls):
    given = answers(flat(calls))
    assert type(given) is list
    assert all(type(number) is int for number in given), "whole numbers alone"
    return cut(given, len(calls))


def reply(*calls):
    """The answer to the last of these calls."""
    return replies(*calls)[-1]


def ring(size):
    """Roads of length 1 from each place to the next, and from the last to the first."""
    return [("road", v, (v + 1) % size, 1) for v in range(size)]


def sixty_roads():
    """A map of 40 places with as many roads as there may be; there is none between 0 and 30."""
    roads = ring(40) + [("road", v, v + 2, 1) for v in range(20)]
    return [("begin", 40, 0)] + roads


class SlowMap:
    """The same ten calls, written another way: nothing is worked out before it is asked."""

    def __init__(self):
        self.begin(2, 0)

    def answer(self, call):
        return getattr(self, call[0])(*call[1:])

    def begin(self, n, r):
        if not 2 <= n <= 40 or not 0 <= r <= 10 ** 12:
            return [-1]
        self.n, self.r = n, r
        self.needs, self.bars, self.lengths = {v: 1 for v in range(n)}, set(), {}
        return [0]

    def road(self, a, b, length):
        if a not in range(self.n) or b not in range(self.n) or length not in range(1, 10 ** 9 + 1):
            return [-1]
        if a == b:
            return [-4]
        if frozenset((a, b)) in self.lengths:
            return [-5]
        if len(self.lengths) == 60:
            return [-6]
        self.lengths[frozenset((a, b))] = length
        return [0]

    def need(self, v, d):
        if v not in range(self.n) or d not in range(1001):
            return [-1]
        self.needs[v] = d
        return [0]

    def cost(self, v, c):
        return [0] if v in range(self.n) and c in range(10 ** 9 + 1) else [-1]

    def bar(self, v, k):
        if v not in range(self.n) or k not in (0, 1):
            return [-1]
        self.bars = self.bars | {v} if k else self.bars - {v}
        return [0]

    def reach(self, r):
        if not 0 <= r <= 10 ** 12:
            return [-1]
        self.r = r
        return [0]

    def from_place(self, start):
        """The distances from a place, by going along every road until no way gets shorter."""
        far = {start: 0}
        again = True
        while again:
            again = False
            for joined, length in self.lengths.items():
                for a, b in (tuple(joined), tuple(joined)[::-1]):
                    if a in far and far[a] + length < far.get(b, far[a] + length + 1):
                        far[b] = far[a] + length
                        again = True
        return far

    def distance(self, a, b):
        if a not in range(self.n) or b not in range(self.n):
            return [-1]
        far = self.from_place(a)
        return [1, far[b]] if b in far else [0, 0]

    def tree(self):
        """Roads at whose end no other road goes on are taken away; what is left leads round."""
        left = set(self.lengths)
        while True:
            ends = [joined for joined in left
                    if any(sum(v in other for other in left) == 1 for v in joined)]
            if not ends:
                return [0 if left else 1]
            left -= set(ends)

    def order(self):
        keys = []
        for v in range(self.n):
            far = self.from_place(v)
            if self.needs[v]:
                keys.append((-far[min(far)], v))
        return [len(keys)] + [v for far, v in sorted(keys)]

    def blind(self):
        unseen = {v for v in range(self.n) if self.needs[v]}
        for post in set(range(self.n)) - self.bars:
            unseen -= {v for v, far in self.from_place(post).items() if far <= self.r}
        return [len(unseen)] + sorted(unseen)
