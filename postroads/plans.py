"""least and cheapest: where posts are put on a map without roads that lead round, each with its witness."""

from postroads.forms import listed, listed_pairs
from postroads.refusals import BEYOND_ALL_POSTS, ROADS_LEAD_ROUND
from postroads.roadmap import is_within


def least(roadmap):
    refused = refusal_of_plan(roadmap)
    if refused is not None:
        return [refused]
    around = posts_around(roadmap, roadmap.reach)
    short = put_posts(roadmap.deepest_first(), roadmap.needs, around)
    posts = posts_put(short, roadmap.size)
    standing = [(v, posts[v]) for v in range(roadmap.size) if posts[v] > 0]
    return [sum(posts)] + listed_pairs(standing) + listed(witness_of(short, around))


def cheapest(roadmap):
    refused = refusal_of_plan(roadmap)
    if refused is not None:
        return [refused]
    around = posts_around(roadmap, roadmap.reach)
    bills = pay(roadmap.deepest_first(), roadmap.costs, around)
    posts = posts_chosen(bills, around)
    paying = [(v, paid) for v, paid, choice in sorted(bills) if paid > 0]
    return [sum([roadmap.costs[v] for v in posts])] + listed(posts) + listed_pairs(paying)


def refusal_of_plan(roadmap):
    if roadmap.leads_round:
        return ROADS_LEAD_ROUND
    if len(roadmap.blind_places()) > 0:
        return BEYOND_ALL_POSTS
    return None


# For each place those that aren't barred and have it within the reach. Those of least depth come first,
# of equal depth the lesser number, since that is the order in which one of them is chosen.
def posts_around(roadmap, reach):
    shallowest = sorted(roadmap.places_not_barred(), key=lambda u: (roadmap.depth(u), u))
    around = []
    for distances in roadmap.distances:
        around.append([u for u in shallowest if is_within(distances[u], reach)])
    return around


# Gives back each place that was short, in order, with where its posts were put and how many.
def put_posts(places, needs, around):
    posts = [0] * len(around)
    short = []
    for v in places:
        missing = needs[v] - sum([posts[u] for u in around[v]])
        if missing > 0:
            at = around[v][0]
            posts[at] += missing
            short.append((v, at, missing))
    return short


def posts_put(short, size):
    posts = [0] * size
    for v, at, missing in short:
        posts[at] += missing
    return posts


def witness_of(short, around):
    taken = []
    for v, at, missing in reversed(short):
        if not any([at in around[other] for other in taken]):
            taken.append(v)
    return sorted(taken)


# Gives back each place, in order, with what it pays and its choice.
def pay(places, costs, around):
    left = list(costs)
    bills = []
    for v in places:
        paid = min([left[u] for u in around[v]])
        for u in around[v]:
            left[u] -= paid
        used_up = [u for u in around[v] if left[u] == 0]
        bills.append((v, paid, used_up[0]))
    return bills


def posts_chosen(bills, around):
    posts = []
    for v, paid, choice in reversed(bills):
        if not any([post in around[v] for post in posts]):
            posts.append(choice)
    return sorted(posts)
