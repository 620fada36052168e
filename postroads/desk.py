"""The desk: calls on one new map are read one behind another, and each is answered."""

from postroads.changes import bar, begin, cost, need, reach, road
from postroads.claims import apart, covers, frail, pays
from postroads.plans import cheapest, least
from postroads.questions import blind, distance, nearest, order, told, tree
from postroads.roadmap import Roadmap
from postroads.searches import few, radius

# How many numbers stand behind the number that a call begins with, where it has no list.
NUMBERS_BEHIND = {0: 2, 1: 3, 2: 2, 3: 2, 4: 2, 5: 1, 6: 2, 7: 0, 8: 0, 9: 0, 10: 0, 11: 0, 15: 1, 16: 1, 19: 0}
WITH_A_LIST = (12, 13, 14, 17, 18)
WITHOUT_NUMBERS = (7, 8, 9, 10, 11, 19)
LAST_CHANGE = 5


def answers(calls):
    roadmap = Roadmap()
    given = []
    at = 0
    while at < len(calls):
        # A list has its count before it.
        if calls[at] in WITH_A_LIST:
            start = at + 2
            behind = start + calls[at + 1]
        else:
            start = at + 1
            behind = start + NUMBERS_BEHIND[calls[at]]
        answer = answer_to(roadmap, calls[at], calls[start:behind])
        given.append(len(answer))
        given.extend(answer)
        at = behind
    return given


def answer_to(roadmap, call, numbers):
    if call <= LAST_CHANGE:
        return answer_to_change(roadmap, call, numbers)
    if call in WITH_A_LIST:
        return answer_to_list(roadmap, call, numbers)
    if call in WITHOUT_NUMBERS:
        return answer_to_word(roadmap, call)
    return answer_to_numbers(roadmap, call, numbers)


def answer_to_change(roadmap, call, numbers):
    if call == 0:
        return begin(roadmap, numbers[0], numbers[1])
    if call == 1:
        return road(roadmap, numbers[0], numbers[1], numbers[2])
    if call == 2:
        return need(roadmap, numbers[0], numbers[1])
    if call == 3:
        return cost(roadmap, numbers[0], numbers[1])
    if call == 4:
        return bar(roadmap, numbers[0], numbers[1])
    return reach(roadmap, numbers[0])


def answer_to_list(roadmap, call, row):
    if call == 12:
        return covers(roadmap, row)
    if call == 13:
        return apart(roadmap, row)
    if call == 14:
        return pays(roadmap, row)
    if call == 17:
        return nearest(roadmap, row)
    return frail(roadmap, row)


def answer_to_word(roadmap, call):
    if call == 7:
        return tree(roadmap)
    if call == 8:
        return order(roadmap)
    if call == 9:
        return blind(roadmap)
    if call == 10:
        return least(roadmap)
    if call == 11:
        return cheapest(roadmap)
    return told(roadmap)


def answer_to_numbers(roadmap, call, numbers):
    if call == 6:
        return distance(roadmap, numbers[0], numbers[1])
    if call == 15:
        return few(roadmap, numbers[0])
    return radius(roadmap, numbers[0])
