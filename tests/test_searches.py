"""few and radius."""

import unittest

from tests.helper import FAR_ABOVE, FAR_BELOW, line, needs, replies, reply, ring


class Few(unittest.TestCase):

    def few(self, k, *calls):
        return reply(*calls, ("few", k))

    def test_ranges(self):
        for k in (-1, 4, FAR_BELOW, FAR_ABOVE):
            told = replies(("told",), ("few", k), ("told",))
            self.assertEqual(told[1], [-1])
            self.assertEqual(told[0], told[2])
        self.assertEqual([self.few(k) for k in range(4)], [[1], [1], [0, 2, 0, 1], [0, 2, 0, 1]])

    def test_none(self):
        self.assertEqual(self.few(3, ("begin", 4, 10 ** 12)), [1])
        self.assertEqual(self.few(3, ("begin", 40, 10 ** 12)), [1])
        self.assertEqual(self.few(3, ("bar", 0, 1)), [1])
        self.assertEqual(self.few(2, ("begin", 3, 0), *line(1, 1)), [1])

    def test_no_posts_where_nothing_is_needed(self):
        for k in range(4):
            self.assertEqual(self.few(k, *needs(0, 0)), [0, 0])
            self.assertEqual(self.few(k, *needs(0, 0), ("bar", 0, 1), ("bar", 1, 1)), [0, 0])

    def test_no_posts_do_nowhere_else(self):
        self.assertEqual(self.few(0, *needs(0, 1)), [1])
        self.assertEqual(self.few(0, ("road", 0, 1, 1), ("reach", 1)), [1])

    def test_the_fewest_though_more_are_allowed(self):
        for k in (1, 2, 3):
            self.assertEqual(self.few(k, ("begin", 3, 1), *line(1, 1)), [0, 1, 1])
        for k in (2, 3):
            self.assertEqual(self.few(k, ("begin", 6, 1), *line(1, 1, 1, 1, 1)), [0, 2, 1, 4])
        self.assertEqual(self.few(3, ("begin", 9, 1), *line(*[1] * 8)), [0, 3, 1, 4, 7])

    def test_of_equally_many_the_first_number_by_number(self):
        self.assertEqual(self.few(1, ("begin", 3, 2), *line(1, 1)), [0, 1, 0])
        self.assertEqual(self.few(3, ("begin", 5, 1), *line(1, 1, 1, 1)), [0, 2, 0, 3])
        self.assertEqual(self.few(2, ("begin", 5, 2), *line(1, 1, 1, 1), *needs(1, 0, 0, 0, 1)), [0, 1, 2])
        self.assertEqual(self.few(3, ("begin", 8, 1), *line(*[1] * 7)), [0, 3, 0, 3, 6])

    def test_the_first_number_counts_most(self):
        # 0 with 5 and 1 with 2 do; 0 with 1, 2, 3 or 4 doesn't.
        roads = [("road", a, b, 1) for a, b in ((0, 6), (5, 7), (5, 8), (1, 6), (1, 7), (2, 8))]
        calls = [("begin", 9, 1), *roads, *needs(0, 0, 0, 0, 0, 0)]
        self.assertEqual(self.few(2, *calls), [0, 2, 0, 5])
        self.assertEqual(self.few(3, *calls, ("bar", 0, 1)), [0, 2, 1, 2])

    def test_barred_places_are_left_out(self):
        three = [("begin", 3, 1), *line(1, 1)]
        self.assertEqual(self.few(3, *three, ("bar", 1, 1)), [0, 2, 0, 2])
        self.assertEqual(self.few(1, *three, ("bar", 1, 1)), [1])
        self.assertEqual(self.few(3, *three, ("reach", 2), ("bar", 0, 1)), [0, 1, 1])
        self.assertEqual(self.few(3, *three, ("bar", 0, 1), ("bar", 1, 1)), [1])

    def test_needs_above_1_want_one(self):
        self.assertEqual(self.few(1, ("begin", 3, 1), *line(1, 1), *needs(1000, 7, 2)), [0, 1, 1])

    def test_needs_of_0_want_none(self):
        self.assertEqual(self.few(1, ("begin", 5, 0), *needs(0, 0, 0, 1, 0)), [0, 1, 3])
        self.assertEqual(self.few(1, ("begin", 40, 0), *[("need", v, 0) for v in range(39)]), [0, 1, 39])

    def test_a_place_without_need_may_have_a_post(self):
        star = [("begin", 4, 1), *[("road", 0, v, 1) for v in range(1, 4)]]
        self.assertEqual(self.few(3, *star, ("need", 0, 0)), [0, 1, 0])

    def test_roads_may_lead_round(self):
        self.assertEqual(self.few(3, ("begin", 6, 1), *ring(6)), [0, 2, 0, 3])
        self.assertEqual(self.few(3, ("begin", 9, 1), *ring(9)), [0, 3, 0, 3, 6])
        self.assertEqual(self.few(2, ("begin", 9, 1), *ring(9)), [1])
        self.assertEqual(self.few(3, ("begin", 10, 1), *ring(10)), [1])

    def test_the_reach_just_met_and_just_missed(self):
        self.assertEqual(self.few(1, ("road", 0, 1, 5), ("reach", 5)), [0, 1, 0])
        self.assertEqual(self.few(1, ("road", 0, 1, 5), ("reach", 4)), [1])

    def test_the_last_three_of_the_largest_map(self):
        unneeded = [("need", v, 0) for v in range(37)]
        self.assertEqual(self.few(3, ("begin", 40, 0), *unneeded), [0, 3, 37, 38, 39])
        self.assertEqual(self.few(2, ("begin", 40, 0), *unneeded), [1])
        self.assertEqual(self.few(3, ("begin", 40, 10 ** 12), *line(*[10 ** 9] * 39)), [0, 1, 0])

    def test_costs_do_not_matter(self):
        self.assertEqual(self.few(1, ("begin", 3, 2), *line(1, 1), ("cost", 0, 10 ** 9), ("cost", 1, 0)), [0, 1, 0])


class Radius(unittest.TestCase):

    THREE = [("begin", 3, 0), *line(3, 5)]

    def radius(self, k, *calls):
        return reply(*calls, ("radius", k))

    def test_ranges(self):
        for k in (-1, 41, FAR_BELOW, FAR_ABOVE):
            told = replies(*self.THREE, ("told",), ("radius", k), ("told",))
            self.assertEqual(told[-2], [-1])
            self.assertEqual(told[-1], told[-3])
        self.assertEqual(self.radius(0, *self.THREE), [0, 0])
        self.assertEqual(self.radius(40, *self.THREE), [1, 0])

    def test_roads_that_lead_round(self):
        for k in (0, 1, 40):
            self.assertEqual(self.radius(k, ("begin", 3, 0), *ring(3)), [-8])
            self.assertEqual(self.radius(k, ("begin", 7, 0), *ring(3)), [-8])
        self.assertEqual(self.radius(1, ("begin", 3, 0), *ring(3), *needs(0, 0, 0)), [-8])

    def test_out_of_range_goes_before_roads_that_lead_round(self):
        self.assertEqual(self.radius(41, ("begin", 3, 0), *ring(3)), [-1])
        self.assertEqual(self.radius(-1, ("begin", 3, 0), *ring(3)), [-1])

    def test_a_line(self):
        self.assertEqual(self.radius(1, *self.THREE), [1, 5])
        self.assertEqual(self.radius(2, *self.THREE), [1, 3])
        self.assertEqual(self.radius(3, *self.THREE), [1, 0])

    def test_0_is_among_the_distances(self):
        self.assertEqual(self.radius(2), [1, 0])
        self.assertEqual(self.radius(40, ("begin", 40, 10 ** 12)), [1, 0])

    def test_the_reach_does_not_matter_and_stays(self):
        for reach in (0, 1, 4, 5, 10 ** 12):
            told = replies(*self.THREE, ("reach", reach), ("told",), ("radius", 1), ("told",))
            self.assertEqual(told[-2], [1, 5])
            self.assertEqual(told[-1], told[-3])

    def test_needs_above_1_want_one_and_stay(self):
        told = replies(*self.THREE, *needs(1000, 2, 3), ("told",), ("radius", 1), ("told",))
        self.assertEqual(told[-2], [1, 5])
        self.assertEqual(told[-1], told[-3])

    def test_needs_of_0_want_none(self):
        self.assertEqual(self.radius(1, *self.THREE, ("need", 2, 0)), [1, 3])
        self.assertEqual(self.radius(1, *self.THREE, ("need", 0, 0), ("need", 1, 0)), [1, 0])
        self.assertEqual(self.radius(1, *self.THREE, ("need", 1, 0)), [1, 5])

    def test_no_posts_do_where_nothing_is_needed(self):
        for k in (0, 1, 40):
            self.assertEqual(self.radius(k, *self.THREE, *needs(0, 0, 0)), [1, 0])
            self.assertEqual(self.radius(k, *needs(0, 0), ("bar", 0, 1), ("bar", 1, 1)), [1, 0])

    def test_no_posts_do_nowhere_else(self):
        self.assertEqual(self.radius(0, *self.THREE, *needs(0, 0, 1)), [0, 0])

    def test_barred_places(self):
        self.assertEqual(self.radius(1, *self.THREE, ("bar", 1, 1)), [1, 8])
        self.assertEqual(self.radius(2, *self.THREE, ("bar", 1, 1)), [1, 3])
        self.assertEqual(self.radius(3, *self.THREE, ("bar", 1, 1)), [1, 3])
        self.assertEqual(self.radius(3, *self.THREE, ("bar", 0, 1), ("bar", 1, 1)), [1, 8])

    def test_all_barred(self):
        bars = [("bar", v, 1) for v in range(3)]
        self.assertEqual(self.radius(40, *self.THREE, *bars), [0, 0])

    def test_places_that_no_post_ever_has_in_reach(self):
        self.assertEqual(self.radius(40, ("begin", 4, 0), *line(3, 5), ("bar", 3, 1)), [0, 0])
        self.assertEqual(self.radius(1, ("begin", 4, 0), *line(3, 5), ("bar", 3, 1), ("need", 3, 0)), [1, 5])

    def test_several_parts_want_a_post_each(self):
        parts = [("begin", 6, 0), *line(3, 5), ("road", 4, 5, 4)]
        self.assertEqual([self.radius(k, *parts) for k in range(7)],
                         [[0, 0], [0, 0], [0, 0], [1, 5], [1, 4], [1, 3], [1, 0]])

    def test_parts_that_need_nothing_want_no_post(self):
        calls = [("begin", 4, 0), ("road", 0, 1, 7), ("road", 2, 3, 2), *needs(1, 1, 0, 0)]
        self.assertEqual(self.radius(1, *calls), [1, 7])

    def test_the_longest_line(self):
        far = [("begin", 40, 0), *line(*[10 ** 9] * 39)]
        self.assertEqual(self.radius(1, *far), [1, 20 * 10 ** 9])
        self.assertEqual(self.radius(2, *far), [1, 10 * 10 ** 9])
        self.assertEqual(self.radius(14, *far), [1, 10 ** 9])
        self.assertEqual(self.radius(13, *far), [1, 2 * 10 ** 9])
        self.assertEqual(self.radius(39, *far), [1, 10 ** 9])
        self.assertEqual(self.radius(40, *far), [1, 0])

    def test_more_posts_never_ask_for_more(self):
        roads = [("road", v, (v * 7) % v, 3 * v + 1) if v % 2 else ("road", v, v // 2, v) for v in range(1, 20)]
        radii = [self.radius(k, ("begin", 20, 0), *roads) for k in range(1, 21)]
        self.assertEqual([radius[0] for radius in radii], [1] * 20)
        self.assertEqual(radii, sorted(radii, reverse=True))
        self.assertEqual(radii[-1], [1, 0])


if __name__ == "__main__":
    unittest.main()
