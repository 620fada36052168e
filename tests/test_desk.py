"""answers: how calls lie in the list, how answers lie in what is given back, and what is left alone."""

import contextlib
import io
import random
import sys
import unittest
from unittest import mock

from postroads.desk import answers
from tests.helper import NAMES, SlowMap, flat, replies, ring

EACH_CALL = [
    ("begin", 4, 5), ("road", 0, 1, 5), ("road", 1, 2, 6), ("need", 3, 2), ("cost", 1, 4), ("bar", 2, 1),
    ("reach", 5), ("distance", 0, 2), ("distance", 0, 3), ("tree",), ("order",), ("blind",), ("road", 0, 1, 1),
]


class OnlyRead(list):
    """A list that may not be changed, not for a while either."""

    def refuse(self, *numbers, **names):
        raise AssertionError("what is handed in is changed")

    append = extend = insert = pop = remove = clear = sort = reverse = refuse
    __setitem__ = __delitem__ = __iadd__ = __imul__ = refuse


class Layout(unittest.TestCase):

    def test_each_call(self):
        given = [1, 0] * 7 + [2, 1, 11] + [2, 0, 0] + [1, 1] + [5, 4, 2, 1, 0, 3] + [2, 1, 2] + [1, -5]
        self.assertEqual(answers([0, 4, 5, 1, 0, 1, 5, 1, 1, 2, 6, 2, 3, 2, 3, 1, 4, 4, 2, 1, 5, 5,
                                  6, 0, 2, 6, 0, 3, 7, 8, 9, 1, 0, 1, 1]), given)

    def test_one_call(self):
        self.assertEqual(answers([7]), [1, 1])
        self.assertEqual(answers([8]), [3, 2, 0, 1])
        self.assertEqual(answers([9]), [1, 0])
        self.assertEqual(answers([6, 0, 1]), [2, 0, 0])
        self.assertEqual(answers([6, 0, 7]), [1, -1])
        self.assertEqual(answers([0, 1, 1]), [1, -1])

    def test_a_refused_call_is_passed_over_whole(self):
        self.assertEqual(answers([1, 7, 8, 9, 7]), [1, -1, 1, 1])
        self.assertEqual(answers([0, 7, -1, 2, 7, 7, 5, -7, 6, 9, 9, 7]), [1, -1] * 4 + [1, 1])

    def test_two_hundred_calls(self):
        self.assertEqual(answers([8] * 200), [3, 2, 0, 1] * 200)

    def test_the_largest_map_asked_often(self):
        calls = [("begin", 40, 10 ** 12), *ring(40), *[("bar", v, 1) for v in range(39)]]
        calls += [("blind",), ("order",)] * 60
        told = replies(*calls)
        self.assertEqual(told[-2], [0])
        self.assertEqual(told[-1][:4], [40, 20, 19, 21])


class LeftAlone(unittest.TestCase):

    def test_what_is_handed_in_is_not_changed(self):
        calls = flat(EACH_CALL)
        before = list(calls)
        answers(calls)
        self.assertEqual(calls, before)
        self.assertEqual(answers(OnlyRead(calls)), answers(calls))

    def test_nothing_is_kept_from_one_time_to_the_next(self):
        calls = flat(EACH_CALL[1:])
        first = answers(calls)
        self.assertEqual(answers(calls), first)
        answers(flat(EACH_CALL))
        self.assertEqual(answers(calls), first)
        self.assertEqual(answers([8, 9, 6, 0, 1]), [3, 2, 0, 1, 1, 0, 2, 0, 0])

    def test_what_is_given_back_is_the_callers_own(self):
        first = answers([8])
        first.clear()
        self.assertEqual(answers([8]), [3, 2, 0, 1])

    def test_prints_reads_and_imports_nothing(self):
        out, err = io.StringIO(), io.StringIO()
        modules = set(sys.modules)
        refuse = mock.Mock(side_effect=AssertionError("asked for something from outside"))
        with contextlib.redirect_stdout(out), contextlib.redirect_stderr(err), \
                mock.patch("builtins.open", refuse), mock.patch("builtins.input", refuse), \
                mock.patch("builtins.__import__", refuse), mock.patch("sys.stdin", None):
            answers(flat(EACH_CALL))
        self.assertEqual((out.getvalue(), err.getvalue(), set(sys.modules) - modules), ("", "", set()))


class AgainstTheSlowMap(unittest.TestCase):
    """Many maps from one seed, each asked by the program and by the slow map."""

    def a_number(self, source, least, greatest):
        if source.random() < 0.04:
            return source.choice((least - 1, greatest + 1, -10 ** 18, 10 ** 18))
        return source.randint(least, greatest)

    def a_call(self, source, size, longest):
        name = source.choices(NAMES, weights=(0, 24, 6, 2, 10, 5, 6, 3, 4, 6))[0]
        place = [self.a_number(source, 0, size - 1) for number in range(2)]
        if name == "road":
            return (name, *place, self.a_number(source, 1, longest))
        if name == "distance":
            return (name, *place)
        if name in ("need", "bar"):
            return (name, place[0], self.a_number(source, 0, 1))
        if name == "cost":
            return (name, place[0], self.a_number(source, 0, 10 ** 9))
        if name == "reach":
            return (name, self.a_number(source, 0, 3 * longest))
        return (name,)

    def test_many_maps(self):
        source = random.Random(20261116)
        for turn in range(250):
            size = source.choice((2, 3, 4, 5, 6, 8, 12, 20, 40))
            longest = source.choice((1, 2, 5, 30, 10 ** 9))
            calls = [("begin", size, source.randint(0, 2 * longest))]
            calls += [self.a_call(source, size, longest) for number in range(source.choice((15, 40, 100, 199)))]
            slow = SlowMap()
            with self.subTest(turn=turn):
                for call, told in zip(calls, replies(*calls), strict=True):
                    self.assertEqual(told, slow.answer(call), call)


if __name__ == "__main__":
    unittest.main()
