"""The desk: calls on one new map are read one behind another, and each is answered."""

from postroads.changes import bar, begin, cost, need, reach, road
from postroads.questions import blind, distance, order, tree
from postroads.roadmap import Roadmap

# How many numbers stand behind the number that a call begins with.
NUMBERS_BEHIND = {0: 2, 1: 3, 2: 2, 3: 2, 4: 2, 5: 1, 6: 2, 7: 0, 8: 0, 9: 0}
LAST_CHANGE = 5


def answers(calls):
    roadmap = Roadmap()
    given = []
    at = 0
    while at < len(calls):
        call = calls[at]
        behind = at + 1 + NUMBERS_BEHIND[call]
        answer = answer_to(roadmap, call, calls[at + 1:behind])
        given.append(len(answer))
        given.extend(answer)
        at = behind
    return given


def answer_to(roadmap, call, numbers):
    if call <= LAST_CHANGE:
        return answer_to_change(roadmap, call, numbers)
    return answer_to_question(roadmap, call, numbers)


def answer_to_change(roadmap, call, numbers):
    if call == 0:
        return begin(roadmap, numbers[0], numbers[1])
    if call == 1:
        return road(roadmap, numbers[0], numbers[1], numbers[2])
    if call == 2:
        return need(roadmap, numbers[0], numbers[1])
    if call == 3:
        return cost(roadmap, numbers[0], numbers[1])
    if call == 4:
        return bar(roadmap, numbers[0], numbers[1])
    return reach(roadmap, numbers[0])


def answer_to_question(roadmap, call, numbers):
    if call == 6:
        return distance(roadmap, numbers[0], numbers[1])
    if call == 7:
        return tree(roadmap)
    if call == 8:
        return order(roadmap)
    return blind(roadmap)
