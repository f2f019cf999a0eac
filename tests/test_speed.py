"""Tests that answers come soon, also for notices with many readings, deep formulas and houses with many people."""

import time
import unittest

from noticeways.cases import left, told
from noticeways.comparing import groups, harmless, parting, relation
from noticeways.errors import TooMany
from noticeways.readings import readings
from noticeways.truths import count_houses, first_house, holds, how
from tests.plainly import full
from tests.reckoning import A, C, FEW_MORE, JUST_300, VERY_MANY

VAST = 10 ** 30
SIX = tuple(((VAST, many, VAST, many), many % 2 == 0) for many in range(6))
# 260 readings, up to thirteen deep.
DEEP_260 = ("not",) * 9 + C + ("unless",) + A + ("and",) + A


class SpeedTest(unittest.TestCase):

    def soon(self, function, *arguments):
        start = time.perf_counter()
        try:
            function(*arguments)
        except TooMany:
            pass
        self.assertLess(time.perf_counter() - start, 1, (function.__name__, arguments))

    def test_many_readings(self):
        self.assertEqual(len(readings(DEEP_260)), 260)
        for notice in (JUST_300, DEEP_260, ("not",) * 15 + A):
            self.soon(groups, notice)
            self.soon(harmless, notice)
            for decided in ((), SIX[:1], SIX):
                self.soon(left, notice, decided)
                self.soon(told, notice, decided, (VAST, 1, 2, 3))

    def test_too_many_readings(self):
        for notice in (FEW_MORE, VERY_MANY):
            for call in ((groups,), (harmless,), (left, SIX), (told, SIX, (0, 0, 0, 0))):
                self.soon(call[0], notice, *call[1:])

    def test_large_formulas(self):
        for word in ("and", "or", "if", "other"):
            formula = full(word, 10)
            self.soon(holds, formula, (VAST, VAST, VAST, VAST))
            self.soon(how, formula)
            for truth in (True, False):
                self.soon(first_house, formula, truth)
            for people in (0, VAST):
                self.soon(count_houses, formula, people)
            self.soon(relation, formula, full("or", 10))
            self.soon(parting, formula, full("or", 10))


if __name__ == "__main__":
    unittest.main()
