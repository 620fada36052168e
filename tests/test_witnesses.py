"""That no fewer and no cheaper posts can do: every way to put posts is tried on many small maps."""

import itertools
import random
import unittest

from tests.helper import SlowMap, replies, reply


def a_map(source):
    """The calls that make a small map without roads that lead round, and the slow map with the same on it."""
    size = source.randint(2, 6)
    longest = source.choice((1, 2, 4))
    places = source.sample(range(size), size)
    calls = [("begin", size, source.randint(0, 2 * longest))]
    for at in range(1, size):
        if source.random() < 0.9:
            calls.append(("road", places[at], source.choice(places[:at]), source.randint(1, longest)))
    for v in range(size):
        calls.append(("need", v, source.choice((0, 1, 1, 1, 2, 3))))
        calls.append(("cost", v, source.choice((0, 1, 2, 3, 5, 8))))
        calls.append(("bar", v, source.choice((0, 0, 0, 0, 1))))
    slow = SlowMap()
    for call in calls:
        slow.answer(call)
    return calls, slow


def do(slow, posts, wanted):
    return all(sum(v in slow.sees(post) for post in posts) >= wanted[v] for v in range(slow.n))


def free(slow):
    return [v for v in range(slow.n) if v not in slow.bars]


def fewest(slow, wanted):
    """How many posts it takes; None if none do."""
    if not all(any(v in slow.sees(post) for post in free(slow)) for v in wanted if wanted[v]):
        return None
    for count in itertools.count():
        if any(do(slow, posts, wanted) for posts in itertools.combinations_with_replacement(free(slow), count)):
            return count


def at_most_one(slow):
    return {v: min(need, 1) for v, need in slow.needs.items()}


class NoneBetter(unittest.TestCase):

    def on_many_maps(self, seed, check):
        source = random.Random(seed)
        for turn in range(250):
            calls, slow = a_map(source)
            with self.subTest(calls=calls):
                check(calls, slow)

    def check_least(self, calls, slow):
        told = reply(*calls, ("least",))
        count = fewest(slow, slow.needs)
        if count is None:
            self.assertEqual(told, [-7])
            return
        posts = told[2:2 + 2 * told[1]]
        witness = told[3 + 2 * told[1]:]
        self.assertEqual(told[0], count)
        self.assertEqual(reply(*calls, ("covers", posts)), [0, count])
        self.assertEqual(reply(*calls, ("apart", witness)), [0, count])

    def check_cheapest(self, calls, slow):
        told = reply(*calls, ("cheapest",))
        wanted = at_most_one(slow)
        if fewest(slow, wanted) is None:
            self.assertEqual(told, [-7])
            return
        ways = [posts for count in range(slow.n + 1) for posts in itertools.combinations(free(slow), count)]
        cost = min(sum(slow.costs[v] for v in posts) for posts in ways if do(slow, posts, wanted))
        posts = told[2:2 + told[1]]
        self.assertEqual((told[0], sum(slow.costs[v] for v in posts)), (cost, cost))
        self.assertTrue(do(slow, posts, wanted))
        self.assertEqual(reply(*calls, ("pays", told[3 + told[1]:])), [0, cost])

    def check_radius(self, calls, slow):
        told = replies(*calls, *[("radius", k) for k in range(5)])[-5:]
        radii = sorted({far for v in range(slow.n) for far in slow.from_place(v).values()})
        wanted = at_most_one(slow)
        counts = []
        for slow.r in radii:
            counts.append(fewest(slow, wanted))
        for k in range(5):
            fit = [far for far, count in zip(radii, counts, strict=True) if count is not None and count <= k]
            self.assertEqual(told[k], [1, fit[0]] if fit else [0, 0])

    def test_least(self):
        self.on_many_maps(1, self.check_least)

    def test_cheapest(self):
        self.on_many_maps(2, self.check_cheapest)

    def test_radius(self):
        self.on_many_maps(3, self.check_radius)


if __name__ == "__main__":
    unittest.main()
