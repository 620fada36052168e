"""few and radius: posts where each place with a need wants just one."""

from postroads.forms import listed, maybe_a_number
from postroads.plans import posts_around, put_posts
from postroads.refusals import OUT_OF_RANGE, ROADS_LEAD_ROUND

MOST_FOR_FEW = 3
MOST_FOR_RADIUS = 40


def few(roadmap, k):
    if not 0 <= k <= MOST_FOR_FEW:
        return [OUT_OF_RANGE]
    wanted = as_bits(roadmap.places_in_need())
    posts = roadmap.places_not_barred()
    seen = [seen_from(roadmap, post) for post in posts]
    for count in range(k + 1):
        found = first_that_see(seen, 0, wanted, count)
        if found is not None:
            return [0] + listed([posts[at] for at in found])
    return [1]


# There are thousands of threes to be tried, so what a place has in reach is one number with a bit for each.
def as_bits(places):
    return sum([1 << v for v in places])


def seen_from(roadmap, post):
    return as_bits([v for v in range(roadmap.size) if roadmap.in_reach(post, v)])


# The first so many, from start on, that together see all that is wanted. It calls itself three deep at most.
def first_that_see(seen, start, wanted, count):
    if count == 0:
        return [] if wanted == 0 else None
    for at in range(start, len(seen)):
        rest = first_that_see(seen, at + 1, wanted & ~seen[at], count - 1)
        if rest is not None:
            return [at] + rest
    return None


def radius(roadmap, k):
    if not 0 <= k <= MOST_FOR_RADIUS:
        return [OUT_OF_RANGE]
    if roadmap.leads_round:
        return [ROADS_LEAD_ROUND]
    return maybe_a_number(least_radius(roadmap, k))


# Posts that do with one reach do with every greater one, so each trial halves what is left to try.
def least_radius(roadmap, k):
    radii = all_distances(roadmap)
    least_left = 0
    behind = len(radii)
    while least_left < behind:
        middle = (least_left + behind) // 2
        if do_posts_suffice(roadmap, radii[middle], k):
            behind = middle
        else:
            least_left = middle + 1
    if least_left == len(radii):
        return None
    return radii[least_left]


def all_distances(roadmap):
    found = []
    for distances in roadmap.distances:
        found.extend([far for far in distances if far is not None])
    return sorted(set(found))


# What least would put is the fewest where no roads lead round.
def do_posts_suffice(roadmap, reach, k):
    around = posts_around(roadmap, reach)
    places = roadmap.deepest_first()
    if any([len(around[v]) == 0 for v in places]):
        return False
    return len(put_posts(places, [1] * roadmap.size, around)) <= k
