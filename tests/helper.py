"""What the tests share: calls told by name, answers cut apart, and a slow second way to every answer."""

import itertools

from postroads.desk import answers

FAR_BELOW = -10 ** 18
FAR_ABOVE = 10 ** 18

NAMES = ("begin", "road", "need", "cost", "bar", "reach", "distance", "tree", "order", "blind", "least",
         "cheapest", "covers", "apart", "pays", "few", "radius", "nearest", "frail", "told")
WITH_A_LIST = ("covers", "apart", "pays", "nearest", "frail")


def flat(calls):
    """The calls, each a tuple of its name and its numbers or its list, as the one list that is handed in."""
    numbers = []
    for call in calls:
        numbers.append(NAMES.index(call[0]))
        if call[0] in WITH_A_LIST:
            numbers.append(len(call[1]))
            numbers.extend(call[1])
        else:
            numbers.extend(call[1:])
    return numbers


def cut(given, count):
    """What is given back, cut into one list for each of so many calls."""
    parts = []
    at = 0
    while at < len(given):
        parts.append(given[at + 1:at + 1 + given[at]])
        assert len(parts[-1]) == given[at], "fewer numbers than told"
        at += 1 + given[at]
    assert len(parts) == count, "one answer for each call"
    return parts


def replies(*calls):
    given = answers(flat(calls))
    assert type(given) is list
    assert all(type(number) is int for number in given), "whole numbers alone"
    return cut(given, len(calls))


def reply(*calls):
    """The answer to the last of these calls."""
    return replies(*calls)[-1]


def ring(size):
    """Roads of length 1 from each place to the next, and from the last to the first."""
    return [("road", v, (v + 1) % size, 1) for v in range(size)]


def line(*lengths):
    """Roads from each place to the next, of these lengths."""
    return [("road", v, v + 1, length) for v, length in enumerate(lengths)]


def needs(*told):
    """Needs of the first places, in their order."""
    return [("need", v, need) for v, need in enumerate(told)]


def costs(*told):
    """Costs of the first places, in their order."""
    return [("cost", v, cost) for v, cost in enumerate(told)]


def sixty_roads():
    """A map of 40 places with as many roads as there may be; there is none between 0 and 30."""
    roads = ring(40) + [("road", v, v + 2, 1) for v in range(20)]
    return [("begin", 40, 0)] + roads


class SlowMap:
    """The same calls, written another way: nothing but distances is kept for the next question."""

    def __init__(self):
        self.begin(2, 0)

    def answer(self, call):
        return getattr(self, call[0])(*call[1:])

    def begin(self, n, r):
        if not 2 <= n <= 40 or not 0 <= r <= 10 ** 12:
            return [-1]
        self.n, self.r = n, r
        self.needs, self.bars, self.lengths = {v: 1 for v in range(n)}, set(), {}
        self.costs, self.roads, self.found = {v: 1 for v in range(n)}, [], {}
        return [0]

    def road(self, a, b, length):
        if a not in range(self.n) or b not in range(self.n) or length not in range(1, 10 ** 9 + 1):
            return [-1]
        if a == b:
            return [-4]
        if frozenset((a, b)) in self.lengths:
            return [-5]
        if len(self.lengths) == 60:
            return [-6]
        self.lengths[frozenset((a, b))] = length
        self.roads += [a, b, length]
        self.found = {}
        return [0]

    def need(self, v, d):
        if v not in range(self.n) or d not in range(1001):
            return [-1]
        self.needs[v] = d
        return [0]

    def cost(self, v, c):
        if v not in range(self.n) or c not in range(10 ** 9 + 1):
            return [-1]
        self.costs[v] = c
        return [0]

    def bar(self, v, k):
        if v not in range(self.n) or k not in (0, 1):
            return [-1]
        self.bars = self.bars | {v} if k else self.bars - {v}
        return [0]

    def reach(self, r):
        if not 0 <= r <= 10 ** 12:
            return [-1]
        self.r = r
        return [0]

    def from_place(self, start):
        """The distances from a place, by going along every road until no way gets shorter."""
        if start in self.found:
            return self.found[start]
        far = self.found[start] = {start: 0}
        again = True
        while again:
            again = False
            for joined, length in self.lengths.items():
                for a, b in (tuple(joined), tuple(joined)[::-1]):
                    if a in far and far[a] + length < far.get(b, far[a] + length + 1):
                        far[b] = far[a] + length
                        again = True
        return far

    def distance(self, a, b):
        if a not in range(self.n) or b not in range(self.n):
            return [-1]
        far = self.from_place(a)
        return [1, far[b]] if b in far else [0, 0]

    def tree(self):
        """Roads at whose end no other road goes on are taken away; what is left leads round."""
        left = set(self.lengths)
        while True:
            ends = [joined for joined in left
                    if any(sum(v in other for other in left) == 1 for v in joined)]
            if not ends:
                return [0 if left else 1]
            left -= set(ends)

    def depth(self, v):
        far = self.from_place(v)
        return far[min(far)]

    def order(self):
        keys = sorted((-self.depth(v), v) for v in range(self.n) if self.needs[v])
        return [len(keys)] + [v for far, v in keys]

    def blind(self):
        unseen = {v for v in range(self.n) if self.needs[v]}
        for post in set(range(self.n)) - self.bars:
            unseen -= {v for v, far in self.from_place(post).items() if far <= self.r}
        return [len(unseen)] + sorted(unseen)

    def sees(self, post):
        return {v for v, far in self.from_place(post).items() if far <= self.r}

    def choices(self, v):
        """The places that aren't barred and have v in reach, the shallowest first, with their depths."""
        return sorted((self.depth(u), u) for u in range(self.n) if u not in self.bars and v in self.sees(u))

    def refused(self):
        if self.tree() == [0]:
            return [-8]
        return [-7] if self.blind() != [0] else None

    def least(self):
        if self.refused():
            return self.refused()
        posts, where = [], {}
        for v in self.order()[1:]:
            while sum(v in self.sees(post) for post in posts) < self.needs[v]:
                where[v] = self.choices(v)[0][1]
                posts.append(where[v])
        taken = set()
        for v in list(where)[::-1]:
            if not taken & self.sees(where[v]):
                taken.add(v)
        stand = sorted(set(posts))
        told = [number for v in stand for number in (v, posts.count(v))]
        return [len(posts), len(stand)] + told + [len(taken)] + sorted(taken)

    def cheapest(self):
        if self.refused():
            return self.refused()
        paid, choice = {}, {}

        def left(u):
            return self.costs[u] - sum(paid[v] for v in paid if v in self.sees(u))

        for v in self.order()[1:]:
            paid[v] = min(left(u) for depth, u in self.choices(v))
            choice[v] = next(u for depth, u in self.choices(v) if left(u) == 0)
        posts = set()
        for v in self.order()[:0:-1]:
            if not any(v in self.sees(post) for post in posts):
                posts.add(choice[v])
        paying = [number for v in sorted(paid) if paid[v] for number in (v, paid[v])]
        return ([sum(self.costs[v] for v in posts), len(posts)] + sorted(posts)
                + [len(paying) // 2] + paying)

    def told_pairs(self, row, greatest):
        """The list by twos, or None if it isn't as told."""
        if len(row) % 2:
            return None
        pairs = {}
        for at in range(0, len(row), 2):
            if row[at] in pairs or row[at] not in range(self.n) or row[at + 1] not in range(greatest + 1):
                return None
            pairs[row[at]] = row[at + 1]
        return pairs

    def told_places(self, row):
        return all(v in range(self.n) and row.count(v) == 1 for v in row)

    def shorts(self, posts):
        """The places that have fewer in reach than they need, with so many posts at these places."""
        return [v for v in range(self.n)
                if sum(count for u, count in posts.items() if v in self.sees(u)) < self.needs[v]]

    def covers(self, row):
        posts = self.told_pairs(row, 10 ** 6)
        if posts is None:
            return [-2]
        if any(posts[v] and v in self.bars for v in posts):
            return [-3]
        shorts = self.shorts(posts)
        return [1, shorts[0]] if shorts else [0, sum(posts.values())]

    def apart(self, row):
        if not self.told_places(row):
            return [-2]
        for u in range(self.n):
            both = [v for v in row if u not in self.bars and v in self.sees(u)][:2]
            if len(both) == 2:
                return [1, u] + both
        return [0, sum(self.needs[v] for v in row)]

    def pays(self, row):
        amounts = self.told_pairs(row, 10 ** 12)
        if amounts is None:
            return [-2]
        if any(amounts[v] and not self.needs[v] for v in amounts):
            return [-3]
        for u in range(self.n):
            if u not in self.bars and sum(amounts.get(v, 0) for v in self.sees(u)) > self.costs[u]:
                return [1, u]
        return [0, sum(amounts.values())]

    def few(self, k):
        if k not in range(4):
            return [-1]
        wanted = {v for v in range(self.n) if self.needs[v]}
        sight = {u: self.sees(u) for u in range(self.n) if u not in self.bars}
        for count in range(k + 1):
            for posts in itertools.combinations(sight, count):
                if wanted <= set().union(*[sight[u] for u in posts]):
                    return [0, count] + list(posts)
        return [1]

    def radius(self, k):
        if k not in range(41):
            return [-1]
        if self.tree() == [0]:
            return [-8]
        was = self.r, self.needs
        self.needs = {v: min(self.needs[v], 1) for v in self.needs}
        answer = [0, 0]
        for self.r in sorted({far for v in range(self.n) for far in self.from_place(v).values()}, reverse=True):
            if 0 <= self.least()[0] <= k:
                answer = [1, self.r]
        self.r, self.needs = was
        return answer

    def nearest(self, row):
        if not self.told_places(row):
            return [-2]
        answer = []
        for v in range(self.n):
            far = self.from_place(v)
            best = sorted((far[u], at) for at, u in enumerate(row) if u in far)[:1]
            answer += [row[best[0][1]], best[0][0]] if best else [-1, 0]
        return answer

    def frail(self, row):
        posts = self.told_pairs(row, 10 ** 6)
        if posts is None:
            return [-2]
        answer = [len(posts)]
        for v in posts:
            answer += [v, len(self.shorts({**posts, v: max(posts[v] - 1, 0)}))]
        return answer

    def told(self):
        places = [(self.needs[v], self.costs[v], int(v in self.bars)) for v in range(self.n)]
        return [self.r, self.n, *itertools.chain(*places), len(self.lengths)] + self.roads
