"""The calls that change the map. Each looks for what refuses it before it changes anything."""

from postroads.refusals import NO_MORE_ROADS, OUT_OF_RANGE, ROAD_IS_THERE, SAME_PLACE

LEAST_SIZE = 2
GREATEST_SIZE = 40
GREATEST_REACH = 1000000000000
LEAST_LENGTH = 1
GREATEST_LENGTH = 1000000000
GREATEST_NEED = 1000
GREATEST_COST = 1000000000
MOST_ROADS = 60


def begin(roadmap, n, r):
    if not (LEAST_SIZE <= n <= GREATEST_SIZE and 0 <= r <= GREATEST_REACH):
        return [OUT_OF_RANGE]
    roadmap.begin_anew(n, r)
    return [0]


def road(roadmap, a, b, length):
    if not (roadmap.has_place(a) and roadmap.has_place(b)):
        return [OUT_OF_RANGE]
    if not LEAST_LENGTH <= length <= GREATEST_LENGTH:
        return [OUT_OF_RANGE]
    if a == b:
        return [SAME_PLACE]
    if roadmap.has_road(a, b):
        return [ROAD_IS_THERE]
    if len(roadmap.roads) >= MOST_ROADS:
        return [NO_MORE_ROADS]
    roadmap.add_road(a, b, length)
    return [0]


def need(roadmap, v, d):
    if not (roadmap.has_place(v) and 0 <= d <= GREATEST_NEED):
        return [OUT_OF_RANGE]
    roadmap.needs[v] = d
    return [0]


def cost(roadmap, v, c):
    if not (roadmap.has_place(v) and 0 <= c <= GREATEST_COST):
        return [OUT_OF_RANGE]
    roadmap.costs[v] = c
    return [0]


def bar(roadmap, v, k):
    if not (roadmap.has_place(v) and 0 <= k <= 1):
        return [OUT_OF_RANGE]
    roadmap.barred[v] = k
    return [0]


def reach(roadmap, r):
    if not 0 <= r <= GREATEST_REACH:
        return [OUT_OF_RANGE]
    roadmap.reach = r
    return [0]
