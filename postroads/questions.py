"""The calls that ask what is on the map."""

from postroads.forms import are_places, listed, maybe_a_number
from postroads.refusals import LIST_NOT_AS_TOLD, OUT_OF_RANGE


def distance(roadmap, a, b):
    if not (roadmap.has_place(a) and roadmap.has_place(b)):
        return [OUT_OF_RANGE]
    return maybe_a_number(roadmap.distances[a][b])


def tree(roadmap):
    if roadmap.leads_round:
        return [0]
    return [1]


def order(roadmap):
    return listed(roadmap.deepest_first())


def blind(roadmap):
    return listed(roadmap.blind_places())


def nearest(roadmap, row):
    if not are_places(roadmap, row):
        return [LIST_NOT_AS_TOLD]
    answer = []
    for v in range(roadmap.size):
        answer.extend(nearest_to(roadmap.distances[v], row))
    return answer


def nearest_to(distances, row):
    joined = [u for u in row if distances[u] is not None]
    if len(joined) == 0:
        return [-1, 0]
    # Of equally near ones min takes the first in the list.
    near = min(joined, key=lambda u: distances[u])
    return [near, distances[near]]


def told(roadmap):
    answer = [roadmap.reach, roadmap.size]
    for v in range(roadmap.size):
        answer.extend([roadmap.needs[v], roadmap.costs[v], roadmap.barred[v]])
    answer.append(len(roadmap.roads))
    for a, b, length in roadmap.roads:
        answer.extend([a, b, length])
    return answer
