"""The calls that ask and change nothing."""

from postroads.refusals import OUT_OF_RANGE


def distance(roadmap, a, b):
    if not (roadmap.has_place(a) and roadmap.has_place(b)):
        return [OUT_OF_RANGE]
    return maybe_a_number(roadmap.distances[a][b])


def tree(roadmap):
    if roadmap.leads_round:
        return [0]
    return [1]


def order(roadmap):
    return listed(deepest_first(roadmap))


def blind(roadmap):
    return listed([v for v in roadmap.places_in_need() if not can_have_a_post(roadmap, v)])


def deepest_first(roadmap):
    return sorted(roadmap.places_in_need(), key=lambda v: (-roadmap.depth(v), v))


def can_have_a_post(roadmap, v):
    return any([roadmap.barred[u] == 0 and roadmap.in_reach(u, v) for u in range(roadmap.size)])


def listed(numbers):
    return [len(numbers)] + numbers


def maybe_a_number(number):
    if number is None:
        return [0, 0]
    return [1, number]
