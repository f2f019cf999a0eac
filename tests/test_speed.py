"""Tests that answers come soon, also for notices with many readings, deep formulas and houses with many people."""

import time
import unittest

from noticeways.asking import best_house, fewest_questions, plan_for, settles
from noticeways.books import alike, clash, count_meanings, only_in, silent
from noticeways.brackets import least_brackets
from noticeways.cases import left, told
from noticeways.comparing import groups, harmless, parting, relation
from noticeways.desks import Desk
from noticeways.errors import TooMany
from noticeways.plain import reach, table
from noticeways.readings import readings
from noticeways.truths import count_houses, first_house, holds, how
from noticeways.values import Notice
from tests.plainly import full
from tests.reckoning import A, C, FEW_MORE, HAS, JUST_300, VERY_MANY
from tests.test_books import JUST_2000, LARGE, LARGER, NEVER, ONE_MORE

VAST = 10 ** 30
SIX = tuple(((VAST, many, VAST, many), many % 2 == 0) for many in range(6))
# 260 readings, up to thirteen deep.
DEEP_260 = ("not",) * 9 + C + ("unless",) + A + ("and",) + A


# Many readings that are all unlike, and nine signs with as many readings as three clauses can have below the limit.
UNLIKE = (("has", 1, "a"), "unless", ("has", 2, "b"), "unless", ("has", 3, "both"))
EIGHT = ("not",) + C + ("or", ("allnot", "b", "a"))
NINE_SIGNS = (
    ("not", "not", "not", HAS, "and", "not") + C + ("unless", ("has", 1, "a")),
    ("not", "not", "not", HAS, "unless", "not", ("has", 1, "a"), "onlyif", ("has", 1, "b")),
    ("not", "not") + C + ("unless", "not", "not", HAS, "and", ("has", 1, "a")),
    ("not", "not", "not", "not", ("some", "a", "b"), "or") + A + ("and", ("all", "b", "a")),
)


def seven_questions(house):
    """A plan with seven questions one behind another on all of its branches, each for another house."""
    plans = [at % 2 for at in range(128)]
    while len(plans) > 1:
        plans = [("ask", house(at + len(plans)), plans[at], plans[at + 1]) for at in range(0, len(plans), 2)]
    return plans[0]


class SpeedTest(unittest.TestCase):

    def soon(self, function, *arguments):
        start = time.perf_counter()
        try:
            function(*arguments)
        except TooMany:
            pass
        self.assertLess(time.perf_counter() - start, 1, (function, arguments))

    def test_many_readings(self):
        self.assertEqual(len(readings(DEEP_260)), 260)
        for notice in (JUST_300, DEEP_260, ("not",) * 15 + A):
            self.soon(groups, notice)
            self.soon(harmless, notice)
            for decided in ((), SIX[:1], SIX):
                self.soon(left, notice, decided)
                self.soon(told, notice, decided, (VAST, 1, 2, 3))

    def test_too_many_readings(self):
        for notice in (FEW_MORE, VERY_MANY):
            for call in ((groups,), (harmless,), (left, SIX), (told, SIX, (0, 0, 0, 0)), (best_house, SIX),
                         (fewest_questions, SIX), (plan_for, SIX), (settles, SIX, 0), (least_brackets,)):
                self.soon(call[0], notice, *call[1:])

    def test_asking(self):
        for notice in (JUST_300, DEEP_260, UNLIKE, EIGHT, ("not",) * 15 + A):
            for decided in ((), SIX[:1], SIX, (((0, 1, 0, 1), True), ((0, 0, 1, 2), False))):
                for function in (best_house, fewest_questions, plan_for):
                    self.soon(function, notice, decided)
        self.assertEqual(fewest_questions(EIGHT, ()), 3)

    def test_seven_questions(self):
        for house in (lambda at: (0, at % 5, at // 5 % 5, at // 25), lambda at: (VAST, at, VAST, at)):
            plan = seven_questions(house)
            for notice in (JUST_300, DEEP_260, UNLIKE):
                for decided in ((), SIX[:1], SIX):
                    self.soon(settles, notice, decided, plan)

    def test_brackets(self):
        for notice in NINE_SIGNS:
            self.assertEqual(len(notice), 9)
            self.soon(least_brackets, notice)

    def test_books(self):
        for book in (JUST_2000, JUST_2000[::-1], ONE_MORE, (JUST_300, DEEP_260, UNLIKE), (JUST_300,) * 3,
                     (LARGE, LARGER, NEVER), (NEVER, LARGE, LARGER), (LARGER, NEVER, LARGE), (LARGE, LARGE, LARGE)):
            for function in (count_meanings, clash, silent):
                self.soon(function, book)
            for function in (alike, only_in):
                self.soon(function, book, book[::-1])

    def test_desks(self):
        for notice in (JUST_300, DEEP_260, UNLIKE, EIGHT):
            self.soon(Desk, notice)
            desk = Desk(notice)
            for many in range(6):
                house = (VAST, many, VAST, many)
                self.soon(desk.decide, house, desk.says(house) is not False)
                self.soon(bool, desk)
                self.soon(desk.best)
                self.soon(desk.says, (1, VAST, 2, 3))
                self.soon(getattr, desk, "left")
            self.soon(desk.decide, *desk[0])
            self.soon(desk.drop, 3)
            self.soon(desk.undo)

    def test_long_past(self):
        desk = Desk(A)

        def action(one):
            for _ in range(300):
                one.decide((0, 0, 0, 1), True)
                one.drop(0)

        self.soon(desk.attempt, action)
        start = time.perf_counter()
        for _ in range(600):
            desk.undo()
        self.assertLess(time.perf_counter() - start, 1)

    def test_notices_as_values(self):
        for notice in (JUST_300, DEEP_260, UNLIKE, EIGHT):
            n = Notice(*notice)
            self.soon(bool, n)
            self.soon(str, n)
            self.soon(n, (VAST, 1, VAST, 2))
            self.soon(n.like, n)
            self.soon(n.like, ~Notice(*A))

    def test_large_formulas(self):
        for word in ("and", "or", "if", "other"):
            formula = full(word, 10)
            self.soon(holds, formula, (VAST, VAST, VAST, VAST))
            self.soon(how, formula)
            for truth in (True, False):
                self.soon(first_house, formula, truth)
            for people in (0, VAST):
                self.soon(count_houses, formula, people)
            self.soon(reach, formula)
            self.soon(table, formula)
            self.soon(relation, formula, full("or", 10))
            self.soon(parting, formula, full("or", 10))


if __name__ == "__main__":
    unittest.main()
