"""answers: how calls lie in the list, how answers lie in what is given back, and what is left alone."""

import contextlib
import io
import random
import sys
import unittest
from unittest import mock

from postroads.desk import answers
from tests.helper import NAMES, WITH_A_LIST, SlowMap, flat, line, replies, ring

EACH_CALL = [
    ("begin", 4, 5), ("road", 0, 1, 5), ("road", 1, 2, 6), ("need", 3, 2), ("cost", 1, 4), ("bar", 2, 1),
    ("reach", 5), ("distance", 0, 2), ("distance", 0, 3), ("tree",), ("order",), ("blind",), ("road", 0, 1, 1),
    ("least",), ("bar", 2, 0), ("least",), ("cheapest",), ("covers", [0, 1, 2, 3]), ("apart", [2, 3]),
    ("pays", [3, 1, 0, 1]), ("few", 3), ("radius", 2), ("nearest", [1, 3]), ("frail", [3, 2, 0, 0]), ("told",),
    ("covers", []), ("covers", [0]), ("apart", [1, 1]), ("pays", [4, 1]), ("few", 4), ("radius", 41),
    ("nearest", []), ("nearest", [-1]), ("frail", []), ("frail", [0, -1]),
]


class OnlyRead(list):
    """A list that may not be changed, not for a while either."""

    def refuse(self, *numbers, **names):
        raise AssertionError("what is handed in is changed")

    append = extend = insert = pop = remove = clear = sort = reverse = refuse
    __setitem__ = __delitem__ = __iadd__ = __imul__ = refuse


class Layout(unittest.TestCase):

    # The line 0 - 1 - 2 with lengths 5 and 6, and 3 by itself, which needs two; the reach is 5.
    MAP = [0, 4, 5, 1, 0, 1, 5, 1, 1, 2, 6, 2, 3, 2, 3, 1, 4]
    DONE = [1, 0] * 5

    def test_each_call_at_0_to_9(self):
        given = [1, 0] * 7 + [2, 1, 11] + [2, 0, 0] + [1, 1] + [5, 4, 2, 1, 0, 3] + [2, 1, 2] + [1, -5]
        self.assertEqual(answers([0, 4, 5, 1, 0, 1, 5, 1, 1, 2, 6, 2, 3, 2, 3, 1, 4, 4, 2, 1, 5, 5,
                                  6, 0, 2, 6, 0, 3, 7, 8, 9, 1, 0, 1, 1]), given)

    def test_each_call_at_10_to_19(self):
        for call, given in (
                ([10], [12, 4, 3, 0, 1, 2, 1, 3, 2, 3, 1, 2, 3]),
                ([11], [12, 3, 3, 0, 2, 3, 3, 1, 1, 2, 1, 3, 1]),
                ([12, 6, 0, 1, 2, 1, 3, 2], [2, 0, 4]),
                ([13, 2, 0, 1], [4, 1, 0, 0, 1]),
                ([14, 4, 0, 1, 2, 1], [2, 0, 2]),
                ([15, 3], [5, 0, 3, 0, 2, 3]),
                ([16, 2], [2, 1, 6]),
                ([17, 1, 3], [8, -1, 0, -1, 0, -1, 0, 3, 0]),
                ([18, 4, 3, 2, 0, 0], [5, 2, 3, 4, 0, 3]),
                ([19], [21, 5, 4, 1, 1, 0, 1, 4, 0, 1, 1, 0, 2, 1, 0, 2, 0, 1, 5, 1, 2, 6])):
            with self.subTest(call=call):
                self.assertEqual(answers(self.MAP + call), self.DONE + given)
                self.assertEqual(answers(self.MAP + call + [7] + call), self.DONE + given + [1, 1] + given)

    def test_lists_are_passed_over_whole(self):
        for call in (12, 13, 14, 17, 18):
            told = answers([call, 5, 7, 7, 7, 7, 7, 7])
            self.assertEqual(told, [1, -2, 1, 1])
            self.assertEqual(answers([call, 0, 7])[-2:], [1, 1])
        self.assertEqual(answers([12, 0, 13, 0, 14, 0, 17, 0, 18, 0]),
                         [2, 1, 0, 2, 0, 0, 2, 0, 0, 4, -1, 0, -1, 0, 1, 0])

    def test_the_longest_lists(self):
        wrong = [0, 0] * 1000
        for call in (12, 13, 14, 17, 18):
            self.assertEqual(answers([call, 2000] + wrong + [7]), [1, -2, 1, 1])
        row = list(range(40))
        told = replies(("begin", 40, 0), *[("nearest", row)] * 50)
        self.assertEqual(told[1:], [[number for v in row for number in (v, 0)]] * 50)

    def test_one_call(self):
        self.assertEqual(answers([7]), [1, 1])
        self.assertEqual(answers([8]), [3, 2, 0, 1])
        self.assertEqual(answers([9]), [1, 0])
        self.assertEqual(answers([6, 0, 1]), [2, 0, 0])
        self.assertEqual(answers([6, 0, 7]), [1, -1])
        self.assertEqual(answers([0, 1, 1]), [1, -1])

    def test_a_refused_call_is_passed_over_whole(self):
        self.assertEqual(answers([1, 7, 8, 9, 7]), [1, -1, 1, 1])
        self.assertEqual(answers([0, 7, -1, 2, 7, 7, 5, -7, 6, 9, 9, 7]), [1, -1] * 4 + [1, 1])

    def test_two_hundred_calls(self):
        self.assertEqual(answers([8] * 200), [3, 2, 0, 1] * 200)

    def test_two_hundred_calls_of_each(self):
        for call in EACH_CALL[13:]:
            told = replies(("begin", 4, 5), *EACH_CALL[1:7], *[call] * 193)
            self.assertEqual(told[7:], [told[7]] * 193)

    def test_the_largest_map_asked_often(self):
        calls = [("begin", 40, 10 ** 12), *ring(40), *[("bar", v, 1) for v in range(39)]]
        calls += [("blind",), ("order",)] * 60
        told = replies(*calls)
        self.assertEqual(told[-2], [0])
        self.assertEqual(told[-1][:4], [40, 20, 19, 21])


class LeftAlone(unittest.TestCase):

    def test_what_is_handed_in_is_not_changed(self):
        calls = flat(EACH_CALL)
        before = list(calls)
        answers(calls)
        self.assertEqual(calls, before)
        self.assertEqual(answers(OnlyRead(calls)), answers(calls))

    def test_nothing_is_kept_from_one_time_to_the_next(self):
        calls = flat(EACH_CALL[1:])
        first = answers(calls)
        self.assertEqual(answers(calls), first)
        answers(flat(EACH_CALL))
        self.assertEqual(answers(calls), first)
        self.assertEqual(answers([8, 9, 6, 0, 1]), [3, 2, 0, 1, 1, 0, 2, 0, 0])

    def test_each_question_leaves_the_map_as_it_is(self):
        start = EACH_CALL[:7]
        for question in EACH_CALL[7:]:
            if question[0] not in NAMES[:6]:
                told = replies(*start, ("told",), question, question, ("told",))
                self.assertEqual((told[-4], told[-3]), (told[-1], told[-2]), question)

    def test_each_call_by_itself_twice(self):
        for call in EACH_CALL:
            calls = OnlyRead(flat([call]))
            self.assertEqual(answers(calls), answers(calls), call)

    def test_long_lists_are_gone_through_by_loops(self):
        row = list(range(40))
        pairs = [number for v in row for number in (v, 1)]
        calls = [("begin", 40, 3), *line(*[1] * 39), *[(name,) for name in NAMES[7:12]], ("told",), ("few", 3),
                 ("radius", 5), ("covers", pairs), ("apart", row), ("pays", pairs), ("nearest", row), ("frail", pairs),
                 ("nearest", [0] * 1600), *[("tree",)] * 140]
        expected = answers(flat(calls))
        depth, frame = 0, sys._getframe()
        while frame:
            depth, frame = depth + 1, frame.f_back
        limit = sys.getrecursionlimit()
        sys.setrecursionlimit(depth + 30)
        try:
            told = answers(flat(calls))
        finally:
            sys.setrecursionlimit(limit)
        self.assertEqual(told, expected)

    def test_what_is_given_back_is_the_callers_own(self):
        first = answers([8])
        first.clear()
        self.assertEqual(answers([8]), [3, 2, 0, 1])

    def test_prints_reads_and_imports_nothing(self):
        out, err = io.StringIO(), io.StringIO()
        modules = set(sys.modules)
        refuse = mock.Mock(side_effect=AssertionError("asked for something from outside"))
        with contextlib.redirect_stdout(out), contextlib.redirect_stderr(err), \
                mock.patch("builtins.open", refuse), mock.patch("builtins.input", refuse), \
                mock.patch("builtins.__import__", refuse), mock.patch("sys.stdin", None):
            answers(flat(EACH_CALL))
        self.assertEqual((out.getvalue(), err.getvalue(), set(sys.modules) - modules), ("", "", set()))


class AgainstTheSlowMap(unittest.TestCase):
    """Many maps from one seed, each asked by the program and by the slow map."""

    WEIGHTS = (0, 24, 6, 6, 8, 5, 6, 3, 4, 4, 5, 5, 5, 5, 5, 2, 0, 4, 4, 2)

    def a_number(self, source, least, greatest):
        if source.random() < 0.04:
            return source.choice((least - 1, greatest + 1, -10 ** 18, 10 ** 18))
        return source.randint(least, greatest)

    def a_list(self, source, name, size):
        places = source.sample(range(size), source.randint(0, min(size, source.choice((2, 5, 40)))))
        if source.random() < 0.05:
            places.append(source.choice((-1, 0, size - 1, size)))
        if name in ("apart", "nearest"):
            return places
        greatest = 10 ** 12 if name == "pays" else 10 ** 6
        row = []
        for v in places:
            row += [v, source.choice((0, 1, 1, 2, 2, 3, 9, 10 ** 3))]
        if source.random() < 0.05:
            row[-1:] = source.choice(([], [-1], [greatest], [greatest + 1], [10 ** 18]))
        return row

    def a_call(self, source, name, size, longest):
        place = [self.a_number(source, 0, size - 1) for number in range(2)]
        if name in WITH_A_LIST:
            return (name, self.a_list(source, name, size))
        if name == "road":
            return (name, *place, self.a_number(source, 1, longest))
        if name == "distance":
            return (name, *place)
        if name in ("need", "bar"):
            return (name, place[0], self.a_number(source, 0, 1 if name == "bar" else source.choice((1, 3, 20))))
        if name == "cost":
            return (name, place[0], self.a_number(source, 0, source.choice((2, 9, 10 ** 9))))
        if name == "reach":
            return (name, self.a_number(source, 0, 3 * longest))
        if name in ("few", "radius"):
            return (name, self.a_number(source, 0, 3))
        return (name,)

    def compare(self, calls):
        slow = SlowMap()
        for call, told in zip(calls, replies(*calls), strict=True):
            self.assertEqual(told, slow.answer(call), call)

    def test_many_maps(self):
        source = random.Random(20261116)
        for turn in range(250):
            size = source.choice((2, 3, 4, 5, 6, 8, 12, 20, 40))
            longest = source.choice((1, 2, 5, 30, 10 ** 9))
            calls = [("begin", size, source.randint(0, 2 * longest))]
            names = source.choices(NAMES, weights=self.WEIGHTS, k=source.choice((15, 40, 100, 199)))
            calls += [self.a_call(source, name, size, longest) for name in names]
            with self.subTest(turn=turn):
                self.compare(calls)

    def test_many_maps_without_roads_that_lead_round(self):
        source = random.Random(16112026)
        for turn in range(250):
            size = source.choice((2, 3, 4, 5, 6, 7, 8, 9, 12, 20))
            longest = source.choice((1, 2, 5))
            places = source.sample(range(size), size)
            calls = [("begin", size, source.randint(0, 3 * longest))]
            for at in range(1, size):
                if source.random() < 0.9:
                    calls.append(("road", places[at], source.choice(places[:at]), source.randint(1, longest)))
            names = source.choices(("need", "cost", "bar"), weights=(4, 4, 1), k=size)
            names += source.choices(("need", "cost", "bar", "reach", *NAMES[6:]), k=30)
            calls += [self.a_call(source, name, size, longest) for name in names]
            with self.subTest(turn=turn):
                self.compare(calls)


if __name__ == "__main__":
    unittest.main()
