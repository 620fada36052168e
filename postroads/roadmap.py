"""The map: places, roads, the reach, and how far it is from each place to each."""


class Roadmap:

    def __init__(self):
        self.begin_anew(2, 0)

    def begin_anew(self, size, reach):
        self.size = size
        self.reach = reach
        self.needs = [1] * size
        self.costs = [1] * size
        self.barred = [0] * size
        self.roads = []
        self.leads_round = False
        self.distances = distances_without_roads(size)

    def has_place(self, v):
        return 0 <= v < self.size

    def has_road(self, a, b):
        joined = [(road[0], road[1]) for road in self.roads]
        return (a, b) in joined or (b, a) in joined

    def add_road(self, a, b, length):
        # Where there was a way already, one can go by it and come back by the new road.
        if self.distances[a][b] is not None:
            self.leads_round = True
        self.roads.append((a, b, length))
        self.distances = distances_with_road(self.distances, a, b, length)

    def in_reach(self, post, v):
        return is_within(self.distances[post][v], self.reach)

    def depth(self, v):
        # The root is the least place with a distance, so its distance is the first that is there.
        there = [far for far in self.distances[v] if far is not None]
        return there[0]

    def places_in_need(self):
        return [v for v in range(self.size) if self.needs[v] > 0]

    def places_not_barred(self):
        return [v for v in range(self.size) if self.barred[v] == 0]

    def deepest_first(self):
        return sorted(self.places_in_need(), key=lambda v: (-self.depth(v), v))

    def blind_places(self):
        return [v for v in self.places_in_need() if not self.can_have_a_post(v)]

    def can_have_a_post(self, v):
        return any([self.in_reach(post, v) for post in self.places_not_barred()])


def is_within(far, reach):
    return far is not None and far <= reach


# Row u holds at v how far it is from u to v, or None if no roads lead there.
def distances_without_roads(size):
    table = []
    for u in range(size):
        row = [None] * size
        row[u] = 0
        table.append(row)
    return table


# Lengths are above 0, so a shortest way goes along the new road once at most: the parts
# before and behind it are ways that were there, and the old table knows how long they are.
def distances_with_road(distances, a, b, length):
    table = []
    for old in distances:
        by_a = [way_along(old[a], length, far) for far in distances[b]]
        by_b = [way_along(old[b], length, far) for far in distances[a]]
        table.append([shortest(ways) for ways in zip(old, by_a, by_b)])
    return table


def way_along(before, length, behind):
    if before is None or behind is None:
        return None
    return before + length + behind


def shortest(ways):
    return min([far for far in ways if far is not None], default=None)
