"""begin, road, need, cost, bar, reach: what they answer, what they refuse, and what is so afterwards."""

import unittest

from postroads.changes import begin, cost, need
from postroads.roadmap import Roadmap
from tests.helper import FAR_ABOVE, FAR_BELOW, replies, reply, sixty_roads

# What can be seen of a map: each question, with places 0 to 3.
LOOK = [("distance", a, b) for a in range(4) for b in range(a, 4)] + [
    ("tree",), ("order",), ("blind",), ("least",), ("cheapest",), ("covers", [0, 1, 1, 2]), ("apart", [0, 2]),
    ("pays", [0, 1]), ("few", 2), ("radius", 2), ("nearest", [3, 0]), ("frail", [0, 1, 3, 2]), ("told",),
]


class EveryRange(unittest.TestCase):
    """For each number of each first row: the least and the greatest that's allowed, and one beyond each."""

    def check(self, before, call, at, least, greatest):
        for number, answer in ((least, 0), (greatest, 0), (least - 1, -1), (greatest + 1, -1),
                               (FAR_BELOW, -1), (FAR_ABOVE, -1)):
            numbers = call[:at] + (number,) + call[at + 1:]
            with self.subTest(call=numbers):
                self.assertEqual(reply(*before, numbers), [answer])

    def test_begin(self):
        self.check([], ("begin", 5, 5), 1, 2, 40)
        self.check([], ("begin", 5, 5), 2, 0, 10 ** 12)

    def test_road(self):
        map_of_four = [("begin", 4, 0)]
        self.check(map_of_four, ("road", 1, 2, 5), 1, 0, 3)
        self.check(map_of_four, ("road", 2, 1, 5), 2, 0, 3)
        self.check(map_of_four, ("road", 1, 2, 5), 3, 1, 10 ** 9)

    def test_need(self):
        self.check([("begin", 4, 0)], ("need", 1, 5), 1, 0, 3)
        self.check([("begin", 4, 0)], ("need", 1, 5), 2, 0, 1000)

    def test_cost(self):
        self.check([("begin", 4, 0)], ("cost", 1, 5), 1, 0, 3)
        self.check([("begin", 4, 0)], ("cost", 1, 5), 2, 0, 10 ** 9)

    def test_bar(self):
        self.check([("begin", 4, 0)], ("bar", 1, 1), 1, 0, 3)
        self.check([("begin", 4, 0)], ("bar", 1, 1), 2, 0, 1)

    def test_reach(self):
        self.check([("begin", 4, 0)], ("reach", 5), 1, 0, 10 ** 12)

    def test_places_of_the_smallest_and_the_largest_map(self):
        for size in (2, 40):
            for call in (("road", 0, 1, 5), ("need", 0, 1), ("cost", 0, 1), ("bar", 0, 1)):
                last = ("road", size - 1, 0, 5) if call[0] == "road" else (call[0], size - 1, 1)
                beyond = (last[0], size) + last[2:]
                self.assertEqual(replies(("begin", size, 0), last, beyond), [[0], [0], [-1]])

    def test_both_numbers_out_of_range_are_one_refusal(self):
        for call in (("begin", 1, -1), ("road", 9, 9, 0), ("need", 9, -1), ("cost", 9, -1), ("bar", 9, 2)):
            self.assertEqual(reply(call), [-1])


class Road(unittest.TestCase):

    def test_refuses_a_road_from_a_place_to_itself(self):
        self.assertEqual(reply(("road", 1, 1, 5)), [-4])

    def test_refuses_a_second_road_in_both_directions(self):
        for second in (("road", 0, 1, 5), ("road", 1, 0, 5), ("road", 0, 1, 4), ("road", 1, 0, 4)):
            self.assertEqual(replies(("road", 0, 1, 5), second), [[0], [-5]])

    def test_a_way_that_is_no_road_refuses_nothing(self):
        roads = [("road", 0, 1, 5), ("road", 1, 2, 5), ("road", 0, 2, 5)]
        self.assertEqual(replies(("begin", 3, 0), *roads), [[0]] * 4)

    def test_sixty_roads_and_no_more(self):
        self.assertEqual(replies(*sixty_roads()), [[0]] * 61)
        self.assertEqual(reply(*sixty_roads(), ("road", 0, 30, 1)), [-6])
        self.assertEqual(reply(*sixty_roads()[:-1], ("road", 0, 30, 1)), [0])

    def test_a_refused_road_is_not_counted(self):
        refused = [("road", 0, 1, 1), ("road", 3, 3, 1), ("road", 0, 40, 1)] * 20
        calls = sixty_roads()[:-1] + refused + [("road", 0, 30, 1), ("road", 1, 31, 1)]
        self.assertEqual(replies(*calls)[-2:], [[0], [-6]])

    def test_out_of_range_goes_before_all_else(self):
        for length in (0, 10 ** 9 + 1):
            self.assertEqual(reply(("road", 1, 1, length)), [-1])
            self.assertEqual(reply(("road", 0, 1, 5), ("road", 1, 0, length)), [-1])
            self.assertEqual(reply(*sixty_roads(), ("road", 0, 30, length)), [-1])
        self.assertEqual(reply(("road", 2, 2, 5)), [-1])
        self.assertEqual(reply(*sixty_roads(), ("road", 0, 40, 1)), [-1])
        self.assertEqual(reply(*sixty_roads(), ("road", -1, -1, 1)), [-1])

    def test_same_place_and_road_there_go_before_no_more_roads(self):
        self.assertEqual(reply(*sixty_roads(), ("road", 30, 30, 1)), [-4])
        self.assertEqual(reply(*sixty_roads(), ("road", 0, 1, 1)), [-5])
        self.assertEqual(reply(*sixty_roads(), ("road", 0, 39, 1)), [-5])

    def test_a_new_road_joins_both_ways(self):
        calls = [("road", 1, 0, 7), ("distance", 0, 1), ("distance", 1, 0)]
        self.assertEqual(replies(*calls), [[0], [1, 7], [1, 7]])


class RefusedChangesNothing(unittest.TestCase):

    MAP = [("begin", 4, 5), ("road", 0, 1, 5), ("road", 1, 2, 6), ("need", 1, 0), ("bar", 2, 1), ("bar", 3, 1)]
    REFUSED = [
        ("begin", 1, 5), ("begin", 41, 5), ("begin", 3, -1), ("begin", 3, 10 ** 12 + 1),
        ("road", 0, 0, 1), ("road", 0, 1, 1), ("road", 1, 0, 1), ("road", 0, 4, 1), ("road", -1, 0, 1),
        ("road", 0, 3, 0), ("road", 0, 3, 10 ** 9 + 1),
        ("need", 0, -1), ("need", 0, 1001), ("need", 4, 0), ("need", -1, 0),
        ("cost", 0, -1), ("cost", 4, 0), ("bar", 0, 2), ("bar", 0, -1), ("bar", 4, 1), ("bar", -1, 1),
        ("reach", -1), ("reach", 10 ** 12 + 1), ("distance", 0, 4), ("distance", -1, 0),
        ("least",), ("cheapest",), ("covers", [0, 1, 4, 1]), ("covers", [0, 1, 0, 1]), ("covers", [0]),
        ("covers", [2, 1]), ("apart", [0, 4]), ("apart", [1, 1]), ("pays", [0, -1]), ("pays", [1, 1]),
        ("few", 4), ("few", -1), ("radius", 41), ("radius", -1), ("nearest", [4]), ("nearest", [0, 0]),
        ("frail", [0, 10 ** 6 + 1]), ("frail", [0, 1, 2]),
    ]

    def test_each(self):
        expected = replies(*self.MAP, *LOOK)[-len(LOOK):]
        for call in self.REFUSED:
            with self.subTest(call=call):
                told = replies(*self.MAP, call, *LOOK)
                self.assertEqual(len(told[len(self.MAP)]), 1)
                self.assertLess(told[len(self.MAP)][0], 0)
                self.assertEqual(told[-len(LOOK):], expected)

    def test_a_61st_road(self):
        look = [("distance", 0, 30), ("distance", 30, 0), ("tree",), ("order",), ("told",)]
        told = replies(*sixty_roads(), *look, ("road", 0, 30, 1), *look)
        self.assertEqual(told[-5:], told[-11:-6])

    def test_a_refused_road_does_not_lead_round(self):
        roads = [("road", 0, 1, 1), ("road", 1, 2, 1), ("road", 1, 0, 1), ("road", 2, 2, 1)]
        self.assertEqual(reply(("begin", 3, 1), *roads, ("least",)), [1, 1, 1, 1, 1, 2])

    def test_a_refused_cost_is_not_kept(self):
        roadmap = Roadmap()
        for v, c in ((0, -1), (1, 10 ** 9 + 1), (2, 5), (-1, 5)):
            self.assertEqual(cost(roadmap, v, c), [-1])
        self.assertEqual(roadmap.costs, [1, 1])


class NeedCostBarReach(unittest.TestCase):

    def test_need_is_what_was_told_last(self):
        calls = [("need", 0, 0), ("order",), ("need", 0, 1000), ("order",), ("need", 1, 0), ("order",)]
        self.assertEqual(replies(*calls)[1::2], [[1, 1], [2, 0, 1], [1, 0]])
        roadmap = Roadmap()
        need(roadmap, 1, 1000)
        self.assertEqual(roadmap.needs, [1, 1000])

    def test_cost_is_what_was_told_last(self):
        roadmap = Roadmap()
        self.assertEqual(roadmap.costs, [1, 1])
        self.assertEqual(cost(roadmap, 1, 10 ** 9), [0])
        self.assertEqual(roadmap.costs, [1, 10 ** 9])
        self.assertEqual(cost(roadmap, 1, 0), [0])
        self.assertEqual(roadmap.costs, [1, 0])

    def test_bar_is_what_was_told_last(self):
        calls = [("bar", 0, 1), ("bar", 0, 1), ("blind",), ("bar", 0, 0), ("blind",)]
        self.assertEqual(replies(*calls), [[0], [0], [1, 0], [0], [0]])

    def test_reach_is_what_was_told_last(self):
        calls = [("road", 0, 1, 5), ("bar", 0, 1), ("reach", 10 ** 12), ("blind",), ("reach", 4), ("blind",)]
        self.assertEqual(replies(*calls)[3::2], [[0], [1, 0]])


class Begin(unittest.TestCase):

    OLD = [("begin", 5, 9), ("road", 0, 1, 5), ("road", 1, 2, 5), ("road", 2, 0, 5), ("need", 0, 0),
           ("need", 1, 7), ("cost", 2, 3), ("bar", 0, 1), ("bar", 1, 1), ("bar", 2, 1), ("bar", 3, 1)]

    def test_starts_anew(self):
        new = [("begin", 4, 6)] + LOOK + [("bar", 0, 1), ("road", 0, 1, 6), ("blind",), ("road", 1, 0, 6)]
        self.assertEqual(replies(*self.OLD, *new)[len(self.OLD):], replies(*new))

    def test_a_new_map_has_no_roads_no_bars_and_needs_of_one(self):
        told = replies(*self.OLD, ("begin", 3, 0), ("distance", 0, 1), ("tree",), ("order",), ("blind",))
        self.assertEqual(told[-4:], [[0, 0], [1], [3, 0, 1, 2], [0]])

    def test_has_as_many_places_as_told(self):
        for size in (2, 3, 40):
            self.assertEqual(reply(("begin", size, 0), ("order",)), [size] + list(range(size)))
            self.assertEqual(reply(("begin", size, 0), ("distance", size - 1, size - 1)), [1, 0])
            self.assertEqual(reply(("begin", size, 0), ("distance", size, size)), [-1])

    def test_has_the_reach_that_was_told(self):
        for reach, answer in ((6, [0]), (5, [1, 0])):
            calls = [("begin", 2, reach), ("road", 0, 1, 6), ("bar", 0, 1), ("blind",)]
            self.assertEqual(reply(("reach", 100), *calls), answer)

    def test_needs_and_costs_are_one_again(self):
        roadmap = Roadmap()
        cost(roadmap, 0, 8)
        need(roadmap, 1, 8)
        begin(roadmap, 3, 0)
        self.assertEqual((roadmap.needs, roadmap.costs), ([1, 1, 1], [1, 1, 1]))

    def test_roads_are_counted_anew(self):
        self.assertEqual(replies(*sixty_roads(), *sixty_roads()), [[0]] * 122)


class BeforeTheFirstCall(unittest.TestCase):

    def test_two_places(self):
        self.assertEqual(replies(("distance", 1, 1), ("distance", 2, 2)), [[1, 0], [-1]])

    def test_needs_are_above_0_and_nothing_is_barred(self):
        self.assertEqual(replies(("order",), ("blind",)), [[2, 0, 1], [0]])

    def test_needs_and_costs_are_one(self):
        self.assertEqual((Roadmap().needs, Roadmap().costs), ([1, 1], [1, 1]))

    def test_no_roads(self):
        self.assertEqual(replies(("distance", 0, 1), ("tree",), ("road", 0, 1, 5)), [[0, 0], [1], [0]])

    def test_the_reach_is_0(self):
        self.assertEqual(reply(("road", 0, 1, 1), ("bar", 1, 1), ("blind",)), [1, 1])


if __name__ == "__main__":
    unittest.main()
