"""distance, tree, order, blind, nearest, told."""

import unittest

from tests.helper import FAR_ABOVE, FAR_BELOW, line, replies, reply, ring, sixty_roads


class Distance(unittest.TestCase):

    def test_ranges(self):
        for number in (-1, 4, FAR_BELOW, FAR_ABOVE):
            self.assertEqual(reply(("begin", 4, 0), ("distance", number, 1)), [-1])
            self.assertEqual(reply(("begin", 4, 0), ("distance", 1, number)), [-1])
            self.assertEqual(reply(("begin", 4, 0), ("distance", number, number)), [-1])
        for number in (0, 3):
            self.assertEqual(reply(("begin", 4, 0), ("distance", number, 1)), [0, 0])
            self.assertEqual(reply(("begin", 4, 0), ("distance", 1, number)), [0, 0])

    def test_none(self):
        told = replies(("begin", 4, 0), ("road", 0, 1, 5), ("road", 2, 3, 5), ("distance", 1, 2), ("distance", 3, 0))
        self.assertEqual(told[-2:], [[0, 0], [0, 0]])

    def test_from_a_place_to_itself(self):
        calls = [("distance", 1, 1), ("road", 0, 1, 5), ("distance", 1, 1), ("distance", 0, 0)]
        self.assertEqual(replies(*calls), [[1, 0], [0], [1, 0], [1, 0]])

    def test_a_sum_of_lengths(self):
        roads = [("road", 2, 0, 10 ** 9), ("road", 2, 3, 1), ("road", 1, 3, 10)]
        told = replies(("begin", 4, 0), *roads, ("distance", 0, 1), ("distance", 1, 0), ("distance", 0, 3))
        self.assertEqual(told[-3:], [[1, 10 ** 9 + 11], [1, 10 ** 9 + 11], [1, 10 ** 9 + 1]])

    def test_the_least_of_several_ways(self):
        roads = [("road", 0, 3, 10), ("road", 0, 1, 3), ("road", 1, 2, 3), ("road", 2, 3, 3)]
        for first in range(4):
            turned = roads[first:] + roads[:first]
            self.assertEqual(reply(("begin", 4, 0), *turned, ("distance", 0, 3)), [1, 9])
            self.assertEqual(reply(("begin", 4, 0), *turned, ("distance", 3, 0)), [1, 9])

    def test_a_road_may_be_the_shorter_way(self):
        roads = [("road", 0, 2, 5), ("road", 0, 1, 3), ("road", 1, 2, 3)]
        self.assertEqual(reply(("begin", 3, 0), *roads, ("distance", 2, 0)), [1, 5])

    def test_a_road_that_comes_later_shortens_the_ways_that_lead_over_it(self):
        roads = [("road", 0, 1, 2), ("road", 1, 2, 50), ("road", 2, 3, 2), ("road", 1, 4, 3), ("road", 4, 2, 4)]
        told = replies(("begin", 5, 0), *roads[:4], ("distance", 0, 3), roads[4], ("distance", 0, 3))
        self.assertEqual(told[-3:], [[1, 54], [0], [1, 11]])

    def test_a_road_that_comes_later_joins_two_parts(self):
        parts = [("begin", 6, 0), ("road", 0, 1, 1), ("road", 1, 2, 2), ("road", 3, 4, 4), ("road", 4, 5, 8)]
        self.assertEqual(reply(*parts, ("road", 4, 1, 16), ("distance", 5, 0)), [1, 25])
        self.assertEqual(reply(*parts, ("road", 4, 1, 16), ("distance", 2, 3)), [1, 22])

    def test_the_reach_and_bars_do_not_matter(self):
        calls = [("begin", 3, 0), ("road", 0, 1, 5), ("road", 1, 2, 5), ("bar", 1, 1), ("distance", 0, 2)]
        self.assertEqual(reply(*calls), [1, 10])

    def test_the_farthest(self):
        roads = [("road", v, v + 1, 10 ** 9) for v in range(39)]
        self.assertEqual(reply(("begin", 40, 0), *roads, ("distance", 39, 0)), [1, 39 * 10 ** 9])


class Tree(unittest.TestCase):

    def tree(self, size, *roads):
        return reply(("begin", size, 0), *[("road", a, b, 1) for a, b in roads], ("tree",))

    def test_without_roads_that_lead_round(self):
        self.assertEqual(self.tree(5), [1])
        self.assertEqual(self.tree(2, (0, 1)), [1])
        self.assertEqual(self.tree(5, (0, 1), (1, 2), (2, 3), (3, 4)), [1])
        self.assertEqual(self.tree(5, (4, 0), (4, 1), (4, 2), (4, 3)), [1])

    def test_with_roads_that_lead_round(self):
        self.assertEqual(self.tree(3, (0, 1), (1, 2), (2, 0)), [0])
        self.assertEqual(self.tree(5, (0, 1), (1, 2), (2, 3), (3, 1), (3, 4)), [0])
        self.assertEqual(reply(("begin", 40, 0), *ring(40), ("tree",)), [0])

    def test_one_road_less_than_a_ring(self):
        self.assertEqual(reply(("begin", 40, 0), *ring(40)[:-1], ("tree",)), [1])

    def test_several_parts(self):
        self.assertEqual(self.tree(6, (0, 1), (2, 3), (4, 5)), [1])
        self.assertEqual(self.tree(7, (0, 1), (1, 2), (3, 4), (4, 5), (4, 6)), [1])
        self.assertEqual(self.tree(7, (0, 1), (1, 2), (3, 4), (4, 5), (5, 3)), [0])
        self.assertEqual(self.tree(7, (0, 1), (1, 2), (2, 0), (3, 4)), [0])

    def test_fewer_roads_than_places_may_lead_round(self):
        self.assertEqual(self.tree(20, (7, 8), (8, 9), (9, 7)), [0])

    def test_lengths_do_not_matter(self):
        roads = [("road", 0, 1, 1), ("road", 1, 2, 1), ("road", 0, 2, 10 ** 9)]
        self.assertEqual(reply(("begin", 3, 0), *roads, ("tree",)), [0])

    def test_stays_so_when_other_roads_come(self):
        calls = [("begin", 5, 0), *ring(3), ("tree",), ("road", 2, 3, 1), ("tree",)]
        self.assertEqual(replies(*calls)[-3:], [[0], [0], [0]])

    def test_a_refused_road_leads_nowhere(self):
        self.assertEqual(reply(("road", 0, 1, 1), ("road", 1, 0, 1), ("tree",)), [1])


class Order(unittest.TestCase):

    def test_greater_depth_first(self):
        roads = [("road", 0, 3, 4), ("road", 3, 1, 4), ("road", 0, 2, 7)]
        self.assertEqual(reply(("begin", 4, 0), *roads, ("order",)), [4, 1, 2, 3, 0])

    def test_equal_depths_lesser_number_first(self):
        roads = [("road", 0, 3, 5), ("road", 0, 1, 5), ("road", 0, 4, 2), ("road", 4, 2, 3)]
        self.assertEqual(reply(("begin", 5, 0), *roads, ("order",)), [5, 1, 2, 3, 4, 0])

    def test_without_roads_all_are_roots(self):
        self.assertEqual(reply(("begin", 5, 0), ("order",)), [5, 0, 1, 2, 3, 4])

    def test_needs_of_0_are_left_out(self):
        calls = [("begin", 4, 0), ("road", 0, 1, 1), ("road", 1, 2, 1), ("road", 2, 3, 1),
                 ("need", 1, 0), ("need", 3, 1000), ("order",)]
        self.assertEqual(reply(*calls), [3, 3, 2, 0])
        self.assertEqual(reply(("need", 0, 0), ("need", 1, 0), ("order",)), [0])

    def test_a_root_without_need_is_the_root_all_the_same(self):
        roads = [("road", 0, 1, 9), ("road", 0, 2, 3)]
        self.assertEqual(reply(("begin", 3, 0), *roads, ("need", 0, 0), ("order",)), [2, 1, 2])

    def test_a_barred_root_is_the_root_all_the_same(self):
        roads = [("road", 0, 1, 9), ("road", 0, 2, 3)]
        self.assertEqual(reply(("begin", 3, 0), *roads, ("bar", 0, 1), ("order",)), [3, 1, 2, 0])

    def test_several_parts_have_roots_of_their_own(self):
        roads = [("road", 5, 3, 2), ("road", 3, 1, 2), ("road", 0, 4, 3), ("road", 4, 2, 10)]
        self.assertEqual(reply(("begin", 7, 0), *roads, ("order",)), [7, 2, 5, 4, 3, 0, 1, 6])

    def test_parts_that_are_joined_have_one_root(self):
        calls = [("begin", 4, 0), ("road", 2, 3, 1), ("order",), ("road", 3, 0, 1), ("order",)]
        self.assertEqual(replies(*calls)[2::2], [[4, 3, 0, 1, 2], [4, 2, 3, 0, 1]])

    def test_where_roads_lead_round_the_shortest_way_counts(self):
        roads = [("road", 0, 1, 10), ("road", 0, 2, 4), ("road", 2, 1, 4), ("road", 0, 3, 9), ("road", 1, 3, 5)]
        self.assertEqual(reply(("begin", 4, 0), *roads, ("order",)), [4, 3, 1, 2, 0])

    def test_a_road_that_leads_round_makes_depths_equal(self):
        self.assertEqual(reply(("begin", 5, 0), *ring(5), ("order",)), [5, 2, 3, 1, 4, 0])


class Blind(unittest.TestCase):

    LINE = [("begin", 4, 5), ("road", 0, 1, 5), ("road", 1, 2, 6), ("road", 2, 3, 5)]

    def test_none_where_nothing_is_barred(self):
        self.assertEqual(reply(("begin", 40, 0), ("blind",)), [0])

    def test_the_reach_just_met_and_just_missed(self):
        calls = [("road", 0, 1, 5), ("bar", 0, 1), ("reach", 5), ("blind",), ("reach", 4), ("blind",)]
        self.assertEqual(replies(*calls)[3::2], [[0], [1, 0]])

    def test_over_several_roads(self):
        line = self.LINE + [("bar", 0, 1), ("bar", 1, 1), ("bar", 2, 1)]
        for reach, answer in ((4, [3, 0, 1, 2]), (5, [2, 0, 1]), (10, [2, 0, 1]), (11, [1, 0]), (15, [1, 0]),
                              (16, [0])):
            self.assertEqual(reply(*line, ("reach", reach), ("blind",)), answer)

    def test_by_the_shortest_of_several_ways(self):
        roads = [("road", 0, 2, 9), ("road", 0, 1, 4), ("road", 1, 2, 4)]
        calls = [("begin", 3, 8), *roads, ("bar", 0, 1), ("bar", 1, 1)]
        self.assertEqual(reply(*calls, ("blind",)), [0])
        self.assertEqual(reply(*calls, ("reach", 7), ("blind",)), [1, 0])

    def test_barred_places_without_roads_rising(self):
        calls = [("begin", 5, 10 ** 12), ("bar", 4, 1), ("bar", 1, 1), ("bar", 3, 1), ("blind",)]
        self.assertEqual(reply(*calls), [3, 1, 3, 4])

    def test_all_barred(self):
        bars = [("bar", v, 1) for v in range(4)]
        self.assertEqual(reply(*self.LINE, *bars, ("reach", 10 ** 12), ("blind",)), [4, 0, 1, 2, 3])

    def test_a_place_without_need_is_not_blind(self):
        self.assertEqual(reply(("bar", 0, 1), ("bar", 1, 1), ("need", 0, 0), ("blind",)), [1, 1])
        self.assertEqual(reply(("bar", 0, 1), ("bar", 1, 1), ("need", 0, 0), ("need", 1, 0), ("blind",)), [0])

    def test_a_place_without_need_may_have_a_post(self):
        calls = [("road", 0, 1, 5), ("reach", 5), ("bar", 0, 1), ("need", 1, 0), ("blind",)]
        self.assertEqual(reply(*calls), [0])

    def test_one_open_place_does_for_any_need(self):
        self.assertEqual(reply(("need", 0, 1000), ("blind",)), [0])


class Nearest(unittest.TestCase):
    """The lists that it refuses are tested beside those of apart."""

    FIVE = [("begin", 5, 0), *line(2, 2, 3, 1)]

    def nearest(self, calls, *row):
        return reply(*calls, ("nearest", list(row)))

    def test_one(self):
        self.assertEqual(self.nearest(self.FIVE, 2), [2, 4, 2, 2, 2, 0, 2, 3, 2, 4])

    def test_several(self):
        self.assertEqual(self.nearest(self.FIVE, 0, 4), [0, 0, 0, 2, 0, 4, 4, 1, 4, 0])
        self.assertEqual(self.nearest(self.FIVE, 4, 0), [0, 0, 0, 2, 4, 4, 4, 1, 4, 0])

    def test_of_equally_near_ones_the_first_in_the_list(self):
        star = [("begin", 4, 0), *[("road", 0, v, 5) for v in range(1, 4)]]
        self.assertEqual(self.nearest(star, 3, 1), [3, 5, 1, 0, 3, 10, 3, 0])
        self.assertEqual(self.nearest(star, 1, 3), [1, 5, 1, 0, 1, 10, 3, 0])
        self.assertEqual(self.nearest(star, 2, 3, 1), [2, 5, 1, 0, 2, 0, 3, 0])

    def test_a_nearer_one_later_in_the_list(self):
        self.assertEqual(self.nearest(self.FIVE, 4, 3, 0, 1, 2), [0, 0, 1, 0, 2, 0, 3, 0, 4, 0])

    def test_a_distance_to_none(self):
        parts = [("begin", 5, 10 ** 12), ("road", 1, 3, 4)]
        self.assertEqual(self.nearest(parts, 3), [-1, 0, 3, 4, -1, 0, 3, 0, -1, 0])
        self.assertEqual(self.nearest(parts, 4, 1), [-1, 0, 1, 0, -1, 0, 1, 4, 4, 0])
        self.assertEqual(self.nearest([], 1), [-1, 0, 1, 0])

    def test_the_empty_list(self):
        self.assertEqual(self.nearest([]), [-1, 0, -1, 0])
        self.assertEqual(self.nearest([("begin", 40, 0)]), [-1, 0] * 40)

    def test_where_roads_lead_round(self):
        self.assertEqual(self.nearest([("begin", 5, 0), *ring(5)], 3, 0), [0, 0, 0, 1, 3, 1, 3, 0, 3, 1])

    def test_the_reach_needs_and_bars_do_not_matter(self):
        calls = [*self.FIVE, ("bar", 0, 1), ("need", 4, 0), ("reach", 1), ("cost", 0, 9)]
        self.assertEqual(self.nearest(calls, 0, 4), self.nearest(self.FIVE, 0, 4))

    def test_the_largest_map(self):
        far = [("begin", 40, 0), *line(*[10 ** 9] * 39)]
        told = [number for v in range(40) for number in (39, (39 - v) * 10 ** 9)]
        self.assertEqual(self.nearest(far, 39), told)
        self.assertEqual(self.nearest(far, *range(39, -1, -1)), [number for v in range(40) for number in (v, 0)])


class Told(unittest.TestCase):

    def test_before_any_other_call(self):
        self.assertEqual(reply(("told",)), [0, 2, 1, 1, 0, 1, 1, 0, 0])

    def test_everything(self):
        calls = [("begin", 3, 8), ("need", 0, 0), ("cost", 1, 0), ("bar", 2, 1), ("need", 2, 1000),
                 ("cost", 0, 10 ** 9), ("road", 2, 0, 7), ("road", 0, 1, 10 ** 9), ("reach", 10 ** 12), ("told",)]
        self.assertEqual(reply(*calls), [10 ** 12, 3, 0, 10 ** 9, 0, 1, 0, 0, 1000, 1, 1, 2, 2, 0, 7, 0, 1, 10 ** 9])

    def test_roads_in_the_order_in_which_they_came_and_as_told(self):
        roads = [("road", 3, 2, 5), ("road", 0, 1, 9), ("road", 1, 0, 4), ("road", 3, 0, 1), ("road", 0, 2, 2)]
        self.assertEqual(reply(("begin", 4, 0), *roads, ("told",))[14:],
                         [4, 3, 2, 5, 0, 1, 9, 3, 0, 1, 0, 2, 2])

    def test_the_most_roads(self):
        told = reply(*sixty_roads(), ("told",))
        self.assertEqual(told[:122], [0, 40] + [1, 1, 0] * 40)
        roads = [number for call in sixty_roads()[1:] for number in call[1:]]
        self.assertEqual(told[122:], [60] + roads)

    def test_what_was_told_last(self):
        calls = [("need", 0, 5), ("need", 0, 6), ("cost", 1, 7), ("cost", 1, 8), ("bar", 0, 1), ("bar", 1, 1),
                 ("bar", 0, 0), ("reach", 3), ("reach", 4), ("told",)]
        self.assertEqual(reply(*calls), [4, 2, 6, 1, 0, 1, 8, 1, 0])

    def test_begin_starts_anew(self):
        old = [("begin", 3, 8), ("need", 0, 4), ("cost", 1, 4), ("bar", 2, 1), ("road", 0, 1, 4)]
        self.assertEqual(reply(*old, ("begin", 2, 5), ("told",)), [5, 2, 1, 1, 0, 1, 1, 0, 0])


if __name__ == "__main__":
    unittest.main()
