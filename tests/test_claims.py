"""covers, apart, pays, frail: what is told in a list, looked over against the map."""

import unittest

from tests.helper import FAR_ABOVE, FAR_BELOW, costs, line, needs, replies, reply, ring

THREE = [("begin", 3, 1), *line(1, 1)]
MOST_PLACES = list(range(40))


def paired(numbers):
    """Places from 0 on, each with its number, by turns."""
    return [part for pair in enumerate(numbers) for part in pair]


class NotAsTold(unittest.TestCase):
    """The lists that covers, pays and frail refuse, and those that apart (and nearest) refuse."""

    def check_pairs(self, name, greatest):
        wrong = [[0], [0, 0, 1], [0, 0, 0, 0], [0, 1, 2, 1, 0, 1], [-1, 0], [3, 0], [0, 0, 3, 0], [FAR_BELOW, 0],
                 [FAR_ABOVE, 0], [0, -1], [0, greatest + 1], [0, 0, 1, -1], [0, FAR_BELOW], [0, FAR_ABOVE],
                 [1, 1, 1, 1], [0, 0] * 1000]
        for row in wrong:
            with self.subTest(name=name, row=row[:8]):
                told = replies(*THREE, ("told",), (name, row), ("told",))
                self.assertEqual(told[-2], [-2])
                self.assertEqual(told[-1], told[-3])
        for row in ([], [0, 0], [2, 0], [2, greatest, 0, 0], [1, 0, 0, 0, 2, 0]):
            with self.subTest(name=name, row=row):
                self.assertNotEqual(reply(*THREE, (name, row))[0], -2)

    def test_places_and_numbers_by_turns(self):
        self.check_pairs("covers", 10 ** 6)
        self.check_pairs("pays", 10 ** 12)
        self.check_pairs("frail", 10 ** 6)

    def test_places(self):
        wrong = [[-1], [3], [0, 3], [0, 0], [1, 2, 1], [0, 1, 2, 2], [FAR_BELOW], [FAR_ABOVE], [0, 1, 2, 3], [0] * 2000]
        for name in ("apart", "nearest"):
            for row in wrong:
                with self.subTest(name=name, row=row[:8]):
                    told = replies(*THREE, ("told",), (name, row), ("told",))
                    self.assertEqual(told[-2], [-2])
                    self.assertEqual(told[-1], told[-3])
            for row in ([], [0], [2], [2, 0, 1], [1, 0]):
                with self.subTest(name=name, row=row):
                    self.assertNotEqual(reply(*THREE, (name, row)), [-2])

    def test_places_are_those_of_the_map(self):
        for size in (2, 40):
            for name, row in (("covers", [size - 1, 0]), ("pays", [size - 1, 0]), ("frail", [size - 1, 0]),
                              ("apart", [size - 1]), ("nearest", [size - 1])):
                beyond = [size] + row[1:]
                told = replies(("begin", size, 0), (name, row), (name, beyond))
                self.assertNotEqual(told[1], [-2])
                self.assertEqual(told[2], [-2])

    def test_a_list_not_as_told_goes_before_a_barred_place(self):
        barred = [*THREE, ("bar", 0, 1)]
        for row in ([0, 1, 1], [0, 1, 0, 1], [0, 1, 3, 1], [0, 10 ** 6 + 1], [0, 1, 1, -1]):
            self.assertEqual(reply(*barred, ("covers", row)), [-2])

    def test_a_list_not_as_told_goes_before_a_place_without_need(self):
        without = [*THREE, ("need", 0, 0)]
        for row in ([0, 1, 1], [0, 1, 0, 1], [0, 1, 3, 1], [0, 10 ** 12 + 1], [0, 1, 1, -1]):
            self.assertEqual(reply(*without, ("pays", row)), [-2])


class Covers(unittest.TestCase):

    def covers(self, calls, *row):
        return reply(*calls, ("covers", list(row)))

    def test_enough(self):
        self.assertEqual(self.covers(THREE, 1, 1), [0, 1])
        self.assertEqual(self.covers(THREE, 2, 1, 0, 1), [0, 2])
        self.assertEqual(self.covers(THREE, 2, 4, 1, 0, 0, 5), [0, 9])

    def test_the_least_place_that_lacks(self):
        self.assertEqual(self.covers(THREE, 0, 1), [1, 2])
        self.assertEqual(self.covers(THREE, 2, 1), [1, 0])
        self.assertEqual(self.covers(THREE, 0, 0, 1, 0, 2, 0), [1, 0])
        self.assertEqual(self.covers([*THREE, *needs(1, 2, 2)], 0, 1), [1, 1])

    def test_no_posts(self):
        self.assertEqual(self.covers(THREE), [1, 0])
        self.assertEqual(self.covers([*THREE, *needs(0, 0, 1)]), [1, 2])
        self.assertEqual(self.covers([*THREE, *needs(0, 0, 0)]), [0, 0])

    def test_needs_above_1(self):
        calls = [*THREE, *needs(1, 3, 2)]
        self.assertEqual(self.covers(calls, 1, 3), [0, 3])
        self.assertEqual(self.covers(calls, 1, 2), [1, 1])
        self.assertEqual(self.covers(calls, 0, 1, 2, 2), [0, 3])
        self.assertEqual(self.covers(calls, 0, 2, 2, 1), [1, 2])
        self.assertEqual(self.covers([*needs(1000, 0)], 0, 999), [1, 0])
        self.assertEqual(self.covers([*needs(1000, 0)], 0, 1000), [0, 1000])

    def test_the_reach_just_met_and_just_missed(self):
        calls = [("road", 0, 1, 5)]
        self.assertEqual(self.covers([*calls, ("reach", 5)], 0, 1), [0, 1])
        self.assertEqual(self.covers([*calls, ("reach", 4)], 0, 1), [1, 1])
        self.assertEqual(self.covers([*calls, ("reach", 4)], 1, 1), [1, 0])

    def test_no_distance_is_out_of_every_reach(self):
        self.assertEqual(self.covers([("reach", 10 ** 12)], 0, 5), [1, 1])

    def test_where_roads_lead_round(self):
        self.assertEqual(self.covers([("begin", 5, 1), *ring(5)], 0, 1, 2, 1), [0, 2])
        self.assertEqual(self.covers([("begin", 5, 1), *ring(5)], 0, 1, 1, 1), [1, 3])

    def test_posts_at_a_barred_place(self):
        barred = [*THREE, ("bar", 1, 1)]
        self.assertEqual(self.covers(barred, 1, 1), [-3])
        self.assertEqual(self.covers(barred, 0, 1, 1, 1, 2, 1), [-3])
        self.assertEqual(self.covers(barred, 1, 10 ** 6), [-3])
        self.assertEqual(self.covers(barred, 0, 1, 1, 0, 2, 1), [0, 2])
        self.assertEqual(self.covers(barred, 1, 0), [1, 0])

    def test_a_barred_place_goes_before_a_place_that_lacks(self):
        self.assertEqual(self.covers([*THREE, ("bar", 2, 1)], 2, 1), [-3])

    def test_the_place_that_lacks_may_be_barred(self):
        self.assertEqual(self.covers([*THREE, ("bar", 0, 1)], 2, 1), [1, 0])

    def test_the_most_posts(self):
        row = paired([10 ** 6] * 40)
        self.assertEqual(self.covers([("begin", 40, 10 ** 12)], *row), [0, 40 * 10 ** 6])
        self.assertEqual(self.covers([("begin", 40, 0)], *row[:-2]), [1, 39])


class Apart(unittest.TestCase):

    def apart(self, calls, *row):
        return reply(*calls, ("apart", list(row)))

    def test_apart(self):
        five = [("begin", 5, 1), *line(1, 1, 1, 1), *needs(1, 2, 3, 4, 5)]
        self.assertEqual(self.apart(five, 0, 3), [0, 5])
        self.assertEqual(self.apart(five, 4, 1), [0, 7])
        self.assertEqual(self.apart(five, 2), [0, 3])

    def test_the_empty_list(self):
        self.assertEqual(self.apart(THREE), [0, 0])

    def test_the_least_place_and_the_first_two_in_the_list(self):
        five = [("begin", 5, 1), *line(1, 1, 1, 1)]
        self.assertEqual(self.apart(five, 4, 2), [1, 3, 4, 2])
        self.assertEqual(self.apart(five, 2, 4), [1, 3, 2, 4])
        self.assertEqual(self.apart(five, 3, 2), [1, 2, 3, 2])
        self.assertEqual(self.apart(five, 4, 3, 2, 1, 0), [1, 0, 1, 0])
        self.assertEqual(self.apart(five, 4, 3, 1), [1, 2, 3, 1])
        star = [("begin", 5, 9), *[("road", 0, v, 1) for v in range(1, 5)]]
        self.assertEqual(self.apart(star, 4, 2, 3, 1), [1, 0, 4, 2])

    def test_a_place_has_itself_in_reach(self):
        self.assertEqual(self.apart([("road", 0, 1, 1), ("reach", 1)], 0, 1), [1, 0, 0, 1])
        self.assertEqual(self.apart([("road", 0, 1, 1)], 0, 1), [0, 2])

    def test_barred_places_have_nothing_in_reach(self):
        self.assertEqual(self.apart(THREE, 0, 2), [1, 1, 0, 2])
        self.assertEqual(self.apart([*THREE, ("bar", 1, 1)], 0, 2), [0, 2])
        self.assertEqual(self.apart([*THREE, ("reach", 2), ("bar", 0, 1), ("bar", 1, 1)], 0, 2), [1, 2, 0, 2])

    def test_barred_places_may_be_told(self):
        self.assertEqual(self.apart([*THREE, ("bar", 0, 1)], 0, 2), [1, 1, 0, 2])
        self.assertEqual(self.apart([*THREE, ("bar", 0, 1)], 0), [0, 1])

    def test_needs_of_0_are_told_like_others(self):
        self.assertEqual(self.apart([*THREE, *needs(0, 1, 0)], 0, 2), [1, 1, 0, 2])
        self.assertEqual(self.apart([*THREE, ("reach", 0), *needs(0, 1, 7)], 0, 2), [0, 7])

    def test_the_reach_just_met_and_just_missed(self):
        calls = [("begin", 3, 5), *line(5, 5)]
        self.assertEqual(self.apart(calls, 2, 0), [1, 1, 2, 0])
        self.assertEqual(self.apart([*calls, ("reach", 4)], 2, 0), [0, 2])

    def test_where_roads_lead_round(self):
        self.assertEqual(self.apart([("begin", 6, 1), *ring(6)], 5, 3), [1, 4, 5, 3])
        self.assertEqual(self.apart([("begin", 6, 1), *ring(6)], 5, 2), [0, 2])

    def test_the_largest_map(self):
        told = [("need", v, 1000) for v in range(40)]
        self.assertEqual(self.apart([("begin", 40, 10 ** 12), *told], *MOST_PLACES[::-1]), [0, 40000])
        joined = [("begin", 40, 10 ** 12), ("road", 38, 39, 10 ** 9)]
        self.assertEqual(self.apart(joined, *MOST_PLACES), [1, 38, 38, 39])


class Pays(unittest.TestCase):

    def pays(self, calls, *row):
        return reply(*calls, ("pays", list(row)))

    def test_at_most_the_costs(self):
        calls = [*THREE, *costs(4, 5, 6)]
        self.assertEqual(self.pays(calls, 0, 1, 1, 2, 2, 2), [0, 5])
        self.assertEqual(self.pays(calls, 2, 5), [0, 5])
        self.assertEqual(self.pays(calls, 0, 4), [0, 4])
        self.assertEqual(self.pays(calls, 0, 0, 1, 0, 2, 0), [0, 0])

    def test_the_empty_list(self):
        self.assertEqual(self.pays(THREE), [0, 0])
        self.assertEqual(self.pays([*THREE, *costs(0, 0, 0), *needs(0, 0, 0)]), [0, 0])

    def test_the_least_place_that_asks_too_little(self):
        calls = [*THREE, *costs(4, 5, 6)]
        self.assertEqual(self.pays(calls, 0, 2, 1, 2, 2, 2), [1, 1])
        self.assertEqual(self.pays(calls, 1, 3, 2, 4), [1, 1])
        self.assertEqual(self.pays(calls, 1, 7), [1, 0])
        self.assertEqual(self.pays([*THREE, *costs(9, 9, 6)], 1, 3, 2, 4), [1, 2])

    def test_costs_of_0(self):
        self.assertEqual(self.pays([*THREE, *costs(9, 9, 0)], 2, 0, 0, 9), [0, 9])
        self.assertEqual(self.pays([*THREE, *costs(9, 9, 0)], 1, 1), [1, 2])

    def test_barred_places_ask_nothing(self):
        calls = [*THREE, *costs(4, 5, 6)]
        self.assertEqual(self.pays([*calls, ("bar", 1, 1)], 0, 4, 2, 6), [0, 10])
        self.assertEqual(self.pays([*calls, ("bar", 0, 1)], 0, 5), [0, 5])
        self.assertEqual(self.pays([*calls, ("bar", 0, 1)], 0, 6), [1, 1])
        self.assertEqual(self.pays([*calls, *[("bar", v, 1) for v in range(3)]], 0, 10 ** 12), [0, 10 ** 12])

    def test_a_place_without_need_pays_nothing(self):
        calls = [*THREE, ("need", 1, 0), *costs(4, 5, 6)]
        self.assertEqual(self.pays(calls, 1, 1), [-3])
        self.assertEqual(self.pays(calls, 0, 1, 1, 10 ** 12), [-3])
        self.assertEqual(self.pays(calls, 0, 1, 1, 0, 2, 1), [0, 2])

    def test_a_place_without_need_goes_before_a_cost(self):
        self.assertEqual(self.pays([*THREE, ("need", 2, 0)], 0, 9, 2, 1), [-3])

    def test_a_need_above_1_pays_as_told(self):
        self.assertEqual(self.pays([*THREE, *needs(1000, 1, 1), *costs(4, 5, 6)], 0, 4), [0, 4])

    def test_the_reach_just_met_and_just_missed(self):
        calls = [("road", 0, 1, 5), *costs(4, 2)]
        self.assertEqual(self.pays([*calls, ("reach", 5)], 0, 3), [1, 1])
        self.assertEqual(self.pays([*calls, ("reach", 4)], 0, 3), [0, 3])

    def test_where_roads_lead_round(self):
        calls = [("begin", 4, 1), *ring(4), *costs(3, 2, 3, 3)]
        self.assertEqual(self.pays(calls, 0, 1, 1, 1, 3, 1), [0, 3])
        self.assertEqual(self.pays(calls, 0, 1, 1, 1, 2, 1), [1, 1])

    def test_the_greatest_amounts(self):
        dear = [("begin", 40, 0), *[("cost", v, 10 ** 9) for v in range(40)]]
        self.assertEqual(self.pays(dear, *paired([10 ** 9] * 40)), [0, 40 * 10 ** 9])
        self.assertEqual(self.pays(dear, *paired([10 ** 9] * 39 + [10 ** 9 + 1])), [1, 39])
        bars = [("bar", v, 1) for v in range(40)]
        self.assertEqual(self.pays([("begin", 40, 0), *bars], *paired([10 ** 12] * 40)), [0, 40 * 10 ** 12])


class Frail(unittest.TestCase):

    def frail(self, calls, *row):
        return reply(*calls, ("frail", list(row)))

    def test_in_the_order_of_the_list(self):
        self.assertEqual(self.frail(THREE, 2, 1, 0, 1), [2, 2, 1, 0, 1])
        self.assertEqual(self.frail(THREE, 0, 1, 2, 1), [2, 0, 1, 2, 1])
        self.assertEqual(self.frail(THREE, 1, 1), [1, 1, 3])

    def test_the_empty_list(self):
        self.assertEqual(self.frail(THREE), [0])

    def test_where_posts_are_spared(self):
        self.assertEqual(self.frail(THREE, 1, 2), [1, 1, 0])
        self.assertEqual(self.frail(THREE, 0, 1, 1, 1, 2, 1), [3, 0, 0, 1, 0, 2, 0])

    def test_those_that_have_fewer_already_count_too(self):
        self.assertEqual(self.frail(THREE, 0, 1), [1, 0, 3])
        self.assertEqual(self.frail(THREE, 0, 2), [1, 0, 1])
        self.assertEqual(self.frail([("begin", 4, 0)], 3, 1), [1, 3, 4])

    def test_0_posts_are_left_as_it_is(self):
        self.assertEqual(self.frail(THREE, 1, 0), [1, 1, 3])
        self.assertEqual(self.frail(THREE, 1, 1, 0, 0), [2, 1, 3, 0, 0])
        self.assertEqual(self.frail(THREE, 0, 0, 2, 1), [2, 0, 1, 2, 3])
        self.assertEqual(self.frail([*THREE, *needs(0, 0, 0)], 1, 0), [1, 1, 0])

    def test_needs(self):
        calls = [*THREE, *needs(1, 3, 0)]
        self.assertEqual(self.frail(calls, 0, 1, 1, 1, 2, 1), [3, 0, 1, 1, 1, 2, 1])
        self.assertEqual(self.frail(calls, 0, 2, 2, 2), [2, 0, 0, 2, 0])
        self.assertEqual(self.frail(calls, 0, 1, 2, 2), [2, 0, 2, 2, 1])
        self.assertEqual(self.frail([*needs(1000, 1)], 0, 1000, 1, 2), [2, 0, 1, 1, 0])

    def test_posts_at_barred_places_are_taken_as_told(self):
        barred = [*THREE, ("bar", 1, 1)]
        self.assertEqual(self.frail(barred, 1, 1), [1, 1, 3])
        self.assertEqual(self.frail(barred, 0, 1, 1, 1, 2, 1), [3, 0, 0, 1, 0, 2, 0])

    def test_the_reach_just_met_and_just_missed(self):
        calls = [("road", 0, 1, 5)]
        self.assertEqual(self.frail([*calls, ("reach", 5)], 0, 1), [1, 0, 2])
        self.assertEqual(self.frail([*calls, ("reach", 4)], 0, 1, 1, 1), [2, 0, 1, 1, 1])

    def test_where_roads_lead_round(self):
        self.assertEqual(self.frail([("begin", 4, 1), *ring(4)], 0, 1, 2, 1), [2, 0, 1, 2, 1])

    def test_the_most_posts(self):
        row = paired([10 ** 6] * 40)
        self.assertEqual(self.frail([("begin", 40, 0)], *row), [40] + paired([0] * 40))
        self.assertEqual(self.frail([("begin", 40, 0)], *paired([1] * 40)), [40] + paired([1] * 40))


if __name__ == "__main__":
    unittest.main()
