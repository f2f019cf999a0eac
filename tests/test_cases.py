"""Tests of promises 9 and 14, and of 2 as far as it speaks of these: houses that were decided."""

import random
import unittest

from noticeways import cases
from noticeways.cases import left, told
from noticeways.errors import InvalidCases, InvalidHouse, InvalidNotice, TooMany
from noticeways.readings import readings
from tests.deciding import plainly_left, plainly_told
from tests.plainly import HOUSES, plainly_holds
from tests.reckoning import A, B, C, D, FEW_MORE, JUST_300, TWO_MORE, VERY_MANY, grown_notices
from tests.wrong import WRONG_CASES, WRONG_HOUSES, WRONG_NOTICES, ErrorsCase

EMPTY = (0, 0, 0, 0)
VAST = (10 ** 30, 10 ** 30, 10 ** 30, 10 ** 30)


class DocumentTest(unittest.TestCase):

    def test_example(self):
        found = [left(C, ()), left(C, (((0, 1, 0, 1), True),)), left(C, (((0, 1, 0, 0), False),)),
                 told(C, (((0, 1, 0, 1), True),), (0, 0, 0, 1)), told(C, (), (0, 0, 0, 0)), told(C, (), (0, 1, 0, 0)),
                 told(C, (((0, 1, 0, 0), False),), (0, 0, 0, 0))]
        self.assertEqual(found, [[0, 1], [1], [], False, None, True, None])

    def test_defined_in_the_file(self):
        for name in ("left", "told"):
            self.assertEqual(getattr(cases, name).__module__, "noticeways.cases")


class LeftTest(unittest.TestCase):

    def test_none_decided(self):
        for notice in (A, B, C, D, JUST_300):
            self.assertEqual(left(notice, ()), list(range(len(readings(notice)))))

    def test_one_decided(self):
        self.assertEqual(left(A, ((EMPTY, True),)), [0])
        self.assertEqual(left(A, ((EMPTY, False),)), [])
        # Only the last two readings of B let the empty house.
        self.assertEqual([left(B, ((EMPTY, truth),)) for truth in (True, False)], [[2, 3], [0, 1]])
        self.assertEqual([left(D, (((0, 0, 1, 1), truth),)) for truth in (True, False)], [[1], [0]])

    def test_several_decided(self):
        self.assertEqual(left(B, ((EMPTY, True), ((0, 0, 0, 2), False))), [3])
        self.assertEqual(left(B, (((0, 0, 0, 2), False), (EMPTY, True))), [3])
        self.assertEqual(left(B, ((EMPTY, True), ((0, 0, 0, 2), True))), [2])

    def test_six_decided(self):
        six = tuple(((0, 0, 0, many), many != 1) for many in range(6))
        notice = ("not", ("has", 1, "both"))
        self.assertEqual(readings(notice), [("not", ("just", 1, "both")), ("not", ("least", 1, "both"))])
        self.assertEqual(left(notice, six), [0])
        self.assertEqual(left(notice, six[:5] + (((0, 0, 0, 5), False),)), [])
        self.assertEqual(left(notice, ((EMPTY, True),) * 6), [0, 1])

    def test_decided_twice(self):
        for truth, right in ((True, [2, 3]), (False, [0, 1])):
            self.assertEqual(left(B, ((EMPTY, truth), (EMPTY, truth))), right)
            self.assertEqual(left(B, ((EMPTY, truth), ((0, 0, 0, 4), False), (EMPTY, truth))),
                             left(B, ((EMPTY, truth), ((0, 0, 0, 4), False))))
        for notice in (A, B, C, D, JUST_300):
            for house in (EMPTY, (0, 1, 0, 1), VAST):
                for truth in (True, False):
                    self.assertEqual(left(notice, ((house, truth), (house, not truth))), [])

    def test_none_left(self):
        self.assertEqual(left(C, (((0, 1, 0, 0), False),)), [])
        self.assertEqual(left(("not",) + A, ((EMPTY, True),)), [])
        self.assertEqual(left(JUST_300, ((EMPTY, True), (EMPTY, True), (EMPTY, False))), [])

    def test_vast_houses(self):
        self.assertEqual(left(C, ((VAST, True),)), [1])
        self.assertEqual(left(C, (((10 ** 30, 10 ** 30, 10 ** 30, 0), False),)), [])
        self.assertEqual(left((("has", 3, "a"),), (((0, 10 ** 30, 0, 0), True),)), [1])

    def test_sixteen_deep(self):
        notice = ("not",) * 15 + C
        self.assertEqual(left(notice, (((0, 1, 0, 0), True),)), [])
        self.assertEqual(left(notice, (((0, 0, 0, 0), True),)), [1])
        self.assertEqual(told(notice, (((0, 0, 0, 0), True),), (0, 1, 0, 0)), False)


class ToldTest(unittest.TestCase):

    def test_each_answer(self):
        self.assertIs(told(C, (), (0, 1, 0, 0)), True)
        self.assertIs(told(("not",) + C, (), (0, 1, 0, 0)), False)
        self.assertIs(told(C, (), EMPTY), None)
        self.assertIs(told(A, (), EMPTY), True)
        self.assertIs(told(A, (), (0, 1, 0, 0)), False)
        self.assertIs(told(B, ((EMPTY, True),), (0, 0, 0, 1)), False)

    def test_none_left(self):
        for house in (EMPTY, (0, 1, 0, 0), VAST):
            self.assertIs(told(A, ((EMPTY, False),), house), None)
            self.assertIs(told(C, (((0, 1, 0, 0), False),), house), None)
            self.assertIs(told(B, ((EMPTY, False), (EMPTY, True)), house), None)

    def test_what_was_decided(self):
        for truth in (True, False):
            for house in (EMPTY, (0, 0, 0, 2)):
                self.assertIs(told(B, ((house, truth),), house), truth)

    def test_six_decided(self):
        six = tuple(((many, 0, 0, 1), False) for many in range(6))
        self.assertIs(told(C, six, (7, 0, 0, 1)), False)
        self.assertIs(told(C, six, (0, 3, 2, 0)), True)
        self.assertIs(told(C, six, (0, 1, 0, 1)), None)
        self.assertIs(told(C, six[:5] + (((0, 1, 0, 1), True),), EMPTY), False)


class ReckoningTest(unittest.TestCase):

    def test_grown_notices(self):
        dice = random.Random(8)
        found = []
        for notice in grown_notices(300, 12):
            try:
                formulas = readings(notice)
            except TooMany:
                continue
            if not 1 < len(formulas) <= 40:
                continue
            kept = dice.choice(formulas)
            for many in (0, 1, 2, 6):
                houses = dice.sample(HOUSES[:60], many)
                fair = tuple((house, plainly_holds(kept, house)) for house in houses)
                wild = tuple((house, dice.random() < 0.5) for house in houses)
                for decided in (fair, wild):
                    self.assertEqual(left(notice, decided), plainly_left(formulas, decided), (notice, decided))
                    house = dice.choice(HOUSES)
                    right = plainly_told(formulas, decided, house)
                    self.assertIs(told(notice, decided, house), right, (notice, decided, house))
                    found.append(right)
        self.assertGreater(min(found.count(right) for right in (True, False, None)), 20)

    def test_just_300(self):
        formulas = readings(JUST_300)
        houses = HOUSES[3::100][:6]
        decided = tuple((house, plainly_holds(formulas[77], house)) for house in houses)
        self.assertEqual(left(JUST_300, decided), plainly_left(formulas, decided))
        self.assertIn(77, left(JUST_300, decided))
        for house in HOUSES[::50]:
            self.assertIs(told(JUST_300, decided, house), plainly_told(formulas, decided, house))


class ErrorsTest(ErrorsCase):

    def test_left(self):
        for decided in ((), ((EMPTY, True),) * 6):
            self.takes_nothing_wrong(left, (B, decided), [(InvalidNotice, WRONG_NOTICES), (InvalidCases, WRONG_CASES)])

    def test_told(self):
        self.takes_nothing_wrong(told, (B, ((EMPTY, True),), EMPTY), [
            (InvalidNotice, WRONG_NOTICES), (InvalidCases, WRONG_CASES), (InvalidHouse, WRONG_HOUSES)])

    def test_too_many(self):
        for notice in (FEW_MORE, TWO_MORE, VERY_MANY):
            for decided in ((), ((EMPTY, True),), ((EMPTY, True), (EMPTY, False))):
                self.raises_too_many(300, left, notice, decided)
                self.raises_too_many(300, told, notice, decided, VAST)

    def test_too_many_comes_last(self):
        for notice in (FEW_MORE, VERY_MANY):
            for decided in WRONG_CASES:
                self.raises(InvalidCases, left, notice, decided)
                self.raises(InvalidCases, told, notice, decided, None)
            for house in WRONG_HOUSES:
                self.raises(InvalidHouse, told, notice, (), house)

    def test_six_and_seven(self):
        for many in range(7):
            self.assertEqual(left(C, (((0, 1, 0, 0), True),) * many), [0, 1])
        for many in (7, 8, 100):
            self.raises(InvalidCases, left, C, (((0, 1, 0, 0), True),) * many)
            self.raises(InvalidCases, told, C, (((0, 1, 0, 0), True),) * many, EMPTY)


class SameAnswersTest(unittest.TestCase):

    def test_new_lists(self):
        first = left(B, ())
        first.append("spoilt")
        self.assertEqual(left(B, ()), [0, 1, 2, 3])

    def test_kinds(self):
        for decided in ((), ((EMPTY, True),), ((EMPTY, False), ((0, 1, 0, 0), True))):
            self.assertIs(type(left(D, decided)), list)
            for house in (EMPTY, VAST):
                self.assertIn(told(D, decided, house), (True, False, None))
                self.assertIs(told(D, decided, house), told(D, decided, house))


if __name__ == "__main__":
    unittest.main()
