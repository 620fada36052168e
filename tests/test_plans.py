"""least and cheapest: where the posts are put, and the witness beside them."""

import unittest

from tests.helper import costs, line, needs, replies, reply, ring

BARS_OF_TWO = [("bar", 0, 1), ("bar", 1, 1)]


class Refused(unittest.TestCase):
    """What refuses both alike."""

    def check(self, calls, answer):
        for name in ("least", "cheapest"):
            with self.subTest(name=name, calls=calls):
                self.assertEqual(reply(*calls, (name,)), answer)

    def test_roads_that_lead_round(self):
        self.check([("begin", 3, 0), *ring(3)], [-8])
        self.check([("begin", 40, 10 ** 12), *ring(40)], [-8])

    def test_roads_that_lead_round_where_nothing_is_needed(self):
        self.check([("begin", 5, 0), *ring(3), *needs(0, 0, 0, 0, 0)], [-8])

    def test_roads_that_lead_round_elsewhere(self):
        self.check([("begin", 7, 9), ("road", 4, 5, 1), ("road", 5, 6, 1), ("road", 6, 4, 1)], [-8])

    def test_a_place_that_no_post_has_in_reach(self):
        self.check([("bar", 1, 1)], [-7])
        self.check([("road", 0, 1, 5), ("reach", 4), ("bar", 0, 1)], [-7])
        self.check([("begin", 40, 10 ** 12), ("bar", 39, 1)], [-7])
        self.check([("begin", 3, 1), *line(1, 1), ("bar", 0, 1), ("bar", 1, 1)], [-7])

    def test_lead_round_goes_before_no_post_in_reach(self):
        self.check([("begin", 4, 0), *ring(3), ("bar", 3, 1)], [-8])

    def test_a_barred_place_just_in_reach_is_not_refused(self):
        calls = [("road", 0, 1, 5), ("reach", 5), ("bar", 0, 1)]
        self.assertEqual(reply(*calls, ("least",)), [1, 1, 1, 1, 1, 1])
        self.assertEqual(reply(*calls, ("cheapest",)), [1, 1, 1, 1, 1, 1])

    def test_a_place_without_need_may_be_out_of_every_reach(self):
        calls = [*BARS_OF_TWO, *needs(0, 0)]
        self.assertEqual(reply(*calls, ("least",)), [0, 0, 0])
        self.assertEqual(reply(*calls, ("cheapest",)), [0, 0, 0])
        self.check([*BARS_OF_TWO, *needs(0, 1)], [-7])

    def test_a_refused_plan_changes_nothing(self):
        for calls in ([("begin", 4, 3), *ring(3)], [("begin", 3, 3), ("bar", 1, 1), *costs(4, 5, 6)]):
            told = replies(*calls, ("told",), ("least",), ("told",), ("cheapest",), ("told",))
            self.assertEqual((told[-5], told[-5]), (told[-3], told[-1]))


class Least(unittest.TestCase):

    def least(self, *calls):
        return reply(*calls, ("least",))

    def test_before_any_other_call(self):
        self.assertEqual(self.least(), [2, 2, 0, 1, 1, 1, 2, 0, 1])

    def test_one_post_for_both(self):
        self.assertEqual(self.least(("road", 0, 1, 5), ("reach", 5)), [1, 1, 0, 1, 1, 1])
        self.assertEqual(self.least(("road", 0, 1, 5), ("reach", 4)), [2, 2, 0, 1, 1, 1, 2, 0, 1])

    def test_a_line(self):
        # 4 gets a post at 3, which has 2 too; 1 gets one at 0.
        self.assertEqual(self.least(("begin", 5, 1), *line(1, 1, 1, 1)), [2, 2, 0, 1, 3, 1, 2, 1, 4])

    def test_the_longest_line(self):
        posts = [0] + list(range(2, 40, 3))
        told = [number for v in posts for number in (v, 1)]
        witness = list(range(0, 40, 3))
        self.assertEqual(self.least(("begin", 40, 1), *line(*[1] * 39)), [14, 14] + told + [14] + witness)

    def test_the_largest_map_without_roads(self):
        told = [number for v in range(40) for number in (v, 1)]
        self.assertEqual(self.least(("begin", 40, 10 ** 12)), [40, 40] + told + [40] + list(range(40)))

    def test_the_greatest_lengths_and_reach(self):
        far = [("begin", 40, 10 ** 12), *line(*[10 ** 9] * 39)]
        self.assertEqual(self.least(*far), [1, 1, 0, 1, 1, 39])
        self.assertEqual(self.least(*far, ("reach", 39 * 10 ** 9)), [1, 1, 0, 1, 1, 39])
        self.assertEqual(self.least(*far, ("reach", 39 * 10 ** 9 - 1)), [1, 1, 1, 1, 1, 39])

    def test_the_deepest_is_gone_through_first_not_the_greatest_number(self):
        # The line 0 - 3 - 1 - 2: 2 is the deepest, its post stands at 1, then 0 is left.
        roads = [("road", 0, 3, 1), ("road", 3, 1, 1), ("road", 1, 2, 1)]
        self.assertEqual(self.least(("begin", 4, 1), *roads), [2, 2, 0, 1, 1, 1, 2, 0, 2])

    def test_equal_depths_the_lesser_number_is_gone_through_first(self):
        # 1 and 2 are equally deep; the posts are missing at 1 first, so 2 lacks but the rest.
        roads = [("road", 0, 1, 1), ("road", 0, 2, 1)]
        self.assertEqual(self.least(("begin", 3, 1), *roads, *needs(0, 1, 3)), [3, 1, 0, 3, 1, 2])
        self.assertEqual(self.least(("begin", 3, 2), *roads, ("bar", 0, 1), *needs(0, 2, 2)), [2, 1, 1, 2, 1, 1])

    def test_of_equal_depths_the_post_stands_at_the_lesser_number(self):
        star = [("begin", 4, 2), ("road", 0, 3, 1), ("road", 0, 2, 1), ("road", 0, 1, 1), ("bar", 0, 1)]
        self.assertEqual(self.least(*star), [1, 1, 1, 1, 1, 1])
        self.assertEqual(self.least(*star, ("bar", 1, 1)), [1, 1, 2, 1, 1, 1])
        self.assertEqual(self.least(*star, ("bar", 1, 1), ("bar", 2, 1)), [1, 1, 3, 1, 1, 1])

    def test_the_post_stands_at_least_depth_not_at_the_least_number_nor_the_nearest(self):
        # The line 0 - 4 - 1 - 2 - 3 with reach 2: of 4, 1, 2, 3 (for 2) and 1, 2, 3 (for 3).
        roads = [("road", 0, 4, 1), ("road", 4, 1, 1), ("road", 1, 2, 1), ("road", 2, 3, 1)]
        self.assertEqual(self.least(("begin", 5, 2), *roads, *needs(0, 0, 1, 0), ("need", 4, 0)), [1, 1, 4, 1, 1, 2])
        self.assertEqual(self.least(("begin", 5, 2), *roads, *needs(0, 0, 0, 1), ("need", 4, 0)), [1, 1, 1, 1, 1, 3])

    def test_barred_places_get_no_post(self):
        three = [("begin", 3, 1), *line(1, 1)]
        self.assertEqual(self.least(*three), [1, 1, 1, 1, 1, 2])
        self.assertEqual(self.least(*three, ("bar", 1, 1)), [2, 2, 0, 1, 2, 1, 2, 0, 2])
        self.assertEqual(self.least(*three, ("reach", 2)), [1, 1, 0, 1, 1, 2])
        self.assertEqual(self.least(*three, ("reach", 2), ("bar", 0, 1)), [1, 1, 1, 1, 1, 2])
        self.assertEqual(self.least(*three, ("reach", 2), ("bar", 0, 1), ("bar", 1, 1)), [1, 1, 2, 1, 1, 2])

    def test_a_place_is_in_need_though_it_is_barred(self):
        calls = [("road", 0, 1, 1), ("reach", 1), ("bar", 1, 1), *needs(0, 7)]
        self.assertEqual(self.least(*calls), [7, 1, 0, 7, 1, 1])

    def test_needs_of_0_are_passed_over(self):
        five = [("begin", 5, 1), *line(1, 1, 1, 1)]
        self.assertEqual(self.least(*five, ("need", 4, 0)), [2, 2, 0, 1, 2, 1, 2, 0, 3])
        self.assertEqual(self.least(*five, *needs(0, 0, 0, 0, 0)), [0, 0, 0])

    def test_the_greatest_need_is_put_at_one_place(self):
        self.assertEqual(self.least(*needs(1000, 0)), [1000, 1, 0, 1000, 1, 0])
        self.assertEqual(self.least(("road", 0, 1, 3), ("reach", 3), *needs(1, 1000)), [1000, 1, 0, 1000, 1, 1])

    def test_only_the_missing_posts_are_put(self):
        # 2 gets one at 1; then 1 lacks two, put at 0; 1 alone shows that it takes three.
        self.assertEqual(self.least(("begin", 3, 1), *line(1, 1), *needs(1, 3, 1)), [3, 2, 0, 2, 1, 1, 1, 1])

    def test_posts_for_several_places_add_up_at_one(self):
        # 2 (deepest) puts two at 0; 1 lacks one more, which comes to the same place.
        self.assertEqual(self.least(("begin", 3, 2), *line(1, 1), *needs(1, 3, 2)), [3, 1, 0, 3, 1, 1])

    def test_a_place_with_just_enough_is_not_short(self):
        self.assertEqual(self.least(("begin", 3, 1), *line(1, 1), *needs(0, 2, 2)), [2, 1, 1, 2, 1, 2])

    def test_one_that_was_short_but_not_taken_keeps_nobody_out(self):
        # 5 puts one at 4, 3 one at 2, 1 two at 0. 1 keeps 3 out (it is in reach of 2), 3 doesn't keep 5 out.
        calls = [("begin", 6, 1), *line(1, 1, 1, 1, 1), *needs(0, 3, 0, 2, 0, 1)]
        self.assertEqual(self.least(*calls), [4, 3, 0, 2, 2, 1, 4, 1, 2, 1, 5])

    def test_several_parts(self):
        # The parts are 0 - 3 - 5, 1 - 4 and 2.
        roads = [("road", 3, 0, 2), ("road", 5, 3, 2), ("road", 4, 1, 3)]
        self.assertEqual(self.least(("begin", 6, 2), *roads),
                         [4, 4, 1, 1, 2, 1, 3, 1, 4, 1, 4, 1, 2, 4, 5])
        self.assertEqual(self.least(("begin", 6, 4), *roads), [3, 3, 0, 1, 1, 1, 2, 1, 3, 2, 4, 5])

    def test_costs_do_not_matter(self):
        five = [("begin", 5, 1), *line(1, 1, 1, 1)]
        self.assertEqual(self.least(*five, *costs(10 ** 9, 0, 7, 10 ** 9, 0)), self.least(*five))

    def test_is_asked_anew_after_each_change(self):
        calls = [("road", 0, 1, 1), ("least",), ("reach", 1), ("least",), ("bar", 0, 1), ("least",),
                 ("need", 0, 4), ("least",)]
        self.assertEqual(replies(*calls)[1::2], [[2, 2, 0, 1, 1, 1, 2, 0, 1], [1, 1, 0, 1, 1, 1],
                                                 [1, 1, 1, 1, 1, 1], [4, 1, 1, 4, 1, 0]])


class Cheapest(unittest.TestCase):

    def cheapest(self, *calls):
        return reply(*calls, ("cheapest",))

    def test_before_any_other_call(self):
        self.assertEqual(self.cheapest(), [2, 2, 0, 1, 2, 0, 1, 1, 1])

    def test_one_post_for_both(self):
        near = [("road", 0, 1, 5), ("reach", 5)]
        self.assertEqual(self.cheapest(*near, *costs(7, 4)), [4, 1, 1, 1, 1, 4])
        self.assertEqual(self.cheapest(*near, *costs(4, 7)), [4, 1, 0, 1, 1, 4])
        self.assertEqual(self.cheapest(*near, ("reach", 4), *costs(4, 7)), [11, 2, 0, 1, 2, 0, 4, 1, 7])

    def test_of_equal_costs_the_choice_is_the_one_of_least_depth(self):
        self.assertEqual(self.cheapest(("road", 0, 1, 5), ("reach", 5), *costs(4, 4)), [4, 1, 0, 1, 1, 4])

    def test_of_equal_depths_the_choice_is_the_lesser_number(self):
        star = [("begin", 4, 2), ("road", 0, 3, 1), ("road", 0, 2, 1), ("road", 0, 1, 1), *costs(9, 5, 5, 5)]
        self.assertEqual(self.cheapest(*star), [5, 1, 1, 1, 1, 5])
        self.assertEqual(self.cheapest(*star, ("bar", 1, 1)), [5, 1, 2, 1, 1, 5])
        self.assertEqual(self.cheapest(*star, ("cost", 1, 6)), [5, 1, 2, 1, 1, 5])

    def test_a_line(self):
        # 3 pays 2 (choice 3), 2 pays nothing (choice 3), 1 pays 2 (choice 2), 0 pays 1 (choice 1).
        calls = [("begin", 4, 1), *line(1, 1, 1), *costs(5, 3, 4, 2)]
        self.assertEqual(self.cheapest(*calls), [5, 2, 1, 3, 3, 0, 1, 1, 2, 3, 2])

    def test_a_choice_is_where_0_is_left_then_not_later(self):
        # 3 pays 2: of 3 nothing is left, of 2 one. 2 pays 0. 1 pays the one of 2, 0 the rest of 1.
        calls = [("begin", 4, 1), *line(1, 1, 1), *costs(9, 4, 3, 2)]
        self.assertEqual(self.cheapest(*calls), [6, 2, 1, 3, 3, 0, 3, 1, 1, 3, 2])

    def test_a_choice_may_have_been_paid_before(self):
        # 2 pays for 1; then 1 pays 0, and 0 the same: the choice of all is 1, though of 0 eight is left.
        calls = [("begin", 3, 1), *line(1, 1), *costs(8, 3, 5)]
        self.assertEqual(self.cheapest(*calls), [3, 1, 1, 1, 2, 3])

    def test_costs_of_0(self):
        # 2 has the choice 1, 1 and 0 have the choice 0: a post at 0 doesn't have 2 in reach.
        self.assertEqual(self.cheapest(("begin", 3, 1), *line(1, 1), *costs(0, 0, 0)), [0, 2, 0, 1, 0])
        self.assertEqual(self.cheapest(*costs(0, 6)), [6, 2, 0, 1, 1, 1, 6])

    def test_a_cost_of_0_beside_others(self):
        self.assertEqual(self.cheapest(("begin", 3, 1), *line(1, 1), *costs(5, 0, 5)), [0, 1, 1, 0])

    def test_the_greatest_costs(self):
        dear = [("cost", v, 10 ** 9) for v in range(40)]
        paid = [number for v in range(40) for number in (v, 10 ** 9)]
        self.assertEqual(self.cheapest(("begin", 40, 10 ** 12), *dear),
                         [40 * 10 ** 9, 40] + list(range(40)) + [40] + paid)

    def test_the_longest_line(self):
        # 39 pays for 38, which has 37 too; so does each third place; 0, the last one, pays for itself.
        posts = [0] + list(range(2, 40, 3))
        paid = [number for v in range(0, 40, 3) for number in (v, 1)]
        self.assertEqual(self.cheapest(("begin", 40, 1), *line(*[1] * 39)), [14, 14] + posts + [14] + paid)

    def test_a_need_above_1_wants_one_post(self):
        calls = [("begin", 4, 1), *line(1, 1, 1), *costs(5, 3, 4, 2)]
        self.assertEqual(self.cheapest(*calls, *needs(1000, 2, 3, 1000)), self.cheapest(*calls))

    def test_needs_of_0_neither_pay_nor_want(self):
        five = [("begin", 5, 1), *line(1, 1, 1, 1), *costs(1, 2, 3, 4, 5)]
        self.assertEqual(self.cheapest(*five, *needs(0, 0, 0, 0, 0)), [0, 0, 0])
        self.assertEqual(self.cheapest(*five, *needs(0, 1, 0, 0, 1)), [5, 2, 0, 3, 2, 1, 1, 4, 4])

    def test_barred_places_get_no_post_and_ask_no_cost(self):
        calls = [("begin", 3, 1), *line(1, 1), *costs(5, 1, 7)]
        self.assertEqual(self.cheapest(*calls), [1, 1, 1, 1, 2, 1])
        self.assertEqual(self.cheapest(*calls, ("bar", 1, 1)), [12, 2, 0, 2, 2, 0, 5, 2, 7])

    def test_a_barred_place_may_pay(self):
        self.assertEqual(self.cheapest(("road", 0, 1, 1), ("reach", 1), ("bar", 1, 1), *needs(0, 1), *costs(8, 0)),
                         [8, 1, 0, 1, 1, 8])

    def test_posts_are_put_from_the_last_one_on(self):
        # 4 pays 1 (choice 4), 3 pays 0 (choice 4), 2 pays 2 (choice 3), 1 pays 1 (choice 2), 0 pays 1 (choice 1).
        # From the first one on there would be posts at 4, 3, 2 and 1.
        calls = [("begin", 5, 1), *line(1, 1, 1, 1), *costs(9, 4, 3, 3, 1)]
        self.assertEqual(self.cheapest(*calls), [5, 2, 1, 4, 4, 0, 1, 1, 1, 2, 2, 4, 1])

    def test_several_parts(self):
        roads = [("road", 3, 0, 2), ("road", 5, 3, 2), ("road", 4, 1, 3)]
        calls = [("begin", 6, 3), *roads, *costs(4, 6, 2, 5, 3, 1)]
        # 5 pays 1 (choice 5), 4 pays 3 (choice 4), 3 pays 0 (choice 5), 0 pays 4 (choice 0 and 3), 1 0, 2 2.
        self.assertEqual(self.cheapest(*calls), [10, 4, 0, 2, 4, 5, 4, 0, 4, 2, 2, 4, 3, 5, 1])

    def test_is_asked_anew_after_each_change(self):
        calls = [("road", 0, 1, 1), ("cheapest",), ("cost", 0, 6), ("cheapest",), ("reach", 1), ("cheapest",),
                 ("bar", 1, 1), ("cheapest",)]
        self.assertEqual(replies(*calls)[1::2], [[2, 2, 0, 1, 2, 0, 1, 1, 1], [7, 2, 0, 1, 2, 0, 6, 1, 1],
                                                 [1, 1, 1, 1, 1, 1], [6, 1, 0, 1, 1, 6]])


if __name__ == "__main__":
    unittest.main()
