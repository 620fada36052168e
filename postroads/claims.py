"""covers, apart, pays, frail: what is told in a list is looked over against the map."""

from postroads.forms import are_pairs, are_places, listed_pairs, pairs_of
from postroads.refusals import LIST_NOT_AS_TOLD, NOT_ALLOWED_THERE

GREATEST_COUNT = 1000000
GREATEST_AMOUNT = 1000000000000


def covers(roadmap, row):
    if not are_pairs(roadmap, row, GREATEST_COUNT):
        return [LIST_NOT_AS_TOLD]
    posts = pairs_of(row)
    if any([count > 0 and roadmap.barred[v] == 1 for v, count in posts]):
        return [NOT_ALLOWED_THERE]
    have = posts_in_reach(roadmap, posts)
    for v in range(roadmap.size):
        if have[v] < roadmap.needs[v]:
            return [1, v]
    return [0, sum([count for v, count in posts])]


def apart(roadmap, row):
    if not are_places(roadmap, row):
        return [LIST_NOT_AS_TOLD]
    for post in roadmap.places_not_barred():
        met = [v for v in row if roadmap.in_reach(post, v)]
        if len(met) >= 2:
            return [1, post, met[0], met[1]]
    return [0, sum([roadmap.needs[v] for v in row])]


def pays(roadmap, row):
    if not are_pairs(roadmap, row, GREATEST_AMOUNT):
        return [LIST_NOT_AS_TOLD]
    amounts = pairs_of(row)
    if any([amount > 0 and roadmap.needs[v] == 0 for v, amount in amounts]):
        return [NOT_ALLOWED_THERE]
    for post in roadmap.places_not_barred():
        if sum_in_reach(roadmap, post, amounts) > roadmap.costs[post]:
            return [1, post]
    return [0, sum([amount for v, amount in amounts])]


def frail(roadmap, row):
    if not are_pairs(roadmap, row, GREATEST_COUNT):
        return [LIST_NOT_AS_TOLD]
    posts = pairs_of(row)
    have = posts_in_reach(roadmap, posts)
    return listed_pairs([(post, how_many_short(roadmap, have, post, count)) for post, count in posts])


def how_many_short(roadmap, have, post, count):
    short = 0
    for v in range(roadmap.size):
        lost = 1 if count > 0 and roadmap.in_reach(post, v) else 0
        if have[v] - lost < roadmap.needs[v]:
            short += 1
    return short


# A place has as many posts in reach as stand within reach of it: a distance is the same both ways.
def posts_in_reach(roadmap, posts):
    return [sum_in_reach(roadmap, v, posts) for v in range(roadmap.size)]


def sum_in_reach(roadmap, v, pairs):
    return sum([number for u, number in pairs if roadmap.in_reach(v, u)])
