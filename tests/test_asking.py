"""Tests of promises 9 and 15, and of 2 and 3 as far as they speak of these: which houses to ask for."""

import random
import unittest

from noticeways import asking
from noticeways.asking import best_house, fewest_questions, plan_for, settles
from noticeways.cases import left
from noticeways.comparing import groups
from noticeways.errors import InvalidCases, InvalidNotice, InvalidPlan, TooMany
from noticeways.readings import readings
from tests.deciding import ends_of, plainly_best, plainly_fewest, plainly_settles, questions_of, unlike_left
from tests.plainly import HOUSES, plainly_holds
from tests.reckoning import A, B, C, D, FEW_MORE, JUST_300, TWO_MORE, VERY_MANY, grown_notices
from tests.wrong import WRONG_CASES, WRONG_NOTICES, WRONG_PLANS, ErrorsCase, asked

EMPTY = (0, 0, 0, 0)
VAST = (10 ** 30, 10 ** 30, 10 ** 30, 10 ** 30)
SAME = A + ("and",) + A + ("and",) + A
# Eight and nine unlike readings.
EIGHT = ("not",) + C + ("or", ("allnot", "b", "a"))
NINE = ("not", ("allnot", "b", "a"), "or", "(", ("has", 1, "a"), ")", "or") + A
# Four, seven and eight of them, for which a question more is needed than halves would ask for.
SLOW = (
    ("not", "not", ("all", "b", "a"), "and", ("some", "b", "a"), "onlyif", "(", ("no", "a", "b"), "and",
     ("has", 3, "both"), ")"),
    (("no", "b", "a"), "and", "not", ("allnot", "a", "b"), "or", "(", ("allnot", "b", "a"), ")"),
    (("all", "b", "a"), "or", "not", ("no", "a", "b"), "unless", ("has", 3, "b")),
)


def fair_cases(dice, notice, many):
    """So many houses, decided as one and the same reading tells."""
    kept = dice.choice(readings(notice))
    return tuple((house, plainly_holds(kept, house)) for house in dice.sample(HOUSES[:80], many))


def read_soon(many, most):
    """Grown notices with not too many readings."""
    found = []
    for notice in grown_notices(many, 12):
        try:
            if len(readings(notice)) <= most:
                found.append(notice)
        except TooMany:
            continue
    return found


class DocumentTest(unittest.TestCase):

    def test_example(self):
        found = [best_house(C, ()), best_house(A, ()), best_house(B, ()), fewest_questions(A, ()),
                 fewest_questions(C, ()), fewest_questions(B, ()), fewest_questions(B, (((0, 0, 0, 0), True),)),
                 settles(C, (), ("ask", (0, 0, 0, 0), 0, 1)), settles(C, (), 1), settles(B, (), plan_for(B, ())),
                 plan_for(A, ())]
        self.assertEqual(found, [(1, (0, 0, 0, 0)), None, (2, (0, 0, 0, 0)), 0, 1, 2, 1, True, False, True, 0])

    def test_defined_in_the_file(self):
        for name in ("best_house", "fewest_questions", "plan_for", "settles"):
            self.assertEqual(getattr(asking, name).__module__, "noticeways.asking")


class BestHouseTest(unittest.TestCase):

    def test_ordinary_ones(self):
        self.assertEqual(best_house(B, ((EMPTY, True),)), (1, (0, 0, 0, 2)))
        self.assertEqual(best_house(B, ((EMPTY, False),)), (1, (0, 2, 0, 0)))
        self.assertEqual(best_house(D, ()), (1, (0, 0, 1, 1)))
        self.assertEqual(best_house((("has", 3, "a"),), ()), (1, (0, 0, 0, 4)))
        self.assertEqual(best_house((("has", 3, "a"), "and", ("no", "a", "b")), ()), (1, (0, 4, 0, 0)))

    def test_less_than_two(self):
        for notice in (A, SAME, ("not",) * 15 + A, (("has", 1, "both"), "or", ("some", "a", "b"))):
            self.assertIs(best_house(notice, ()), None)
        self.assertIs(best_house(B, ((EMPTY, True), ((0, 0, 0, 2), True))), None)
        self.assertIs(best_house(C, (((0, 1, 0, 0), False),)), None)
        self.assertIs(best_house(JUST_300, ((EMPTY, True), (EMPTY, False))), None)

    def test_readings_that_are_the_same_count_as_one(self):
        notice = A + ("unless",) + A + ("or",) + A
        self.assertEqual(groups(notice), [(0, 1, 2), (3,)])
        self.assertEqual(best_house(notice, ()), (1, (0, 0, 0, 0)))

    def test_first_house_in_the_order_of_houses(self):
        # The houses (0, 0, 0, 4) and (0, 0, 0, 2) would do as well, and are less as tuples, but have more people.
        self.assertEqual(best_house((("no", "a", "b"), "unless", ("has", 3, "a")), ()), (2, (0, 3, 0, 0)))
        self.assertEqual(best_house((("has", 1, "b"), "unless", "not", ("all", "b", "a")), ()), (2, (0, 0, 1, 0)))

    def test_search(self):
        dice = random.Random(15)
        several = 0
        for notice in read_soon(300, 60):
            for many in (0, 1, 3):
                decided = fair_cases(dice, notice, many)
                found = best_house(notice, decided)
                self.assertEqual(found, plainly_best(notice, decided), (notice, decided))
                several = several + (found is not None and found[0] > 1)
        self.assertGreater(several, 100)

    def test_many_readings(self):
        for notice in (JUST_300, NINE, EIGHT) + SLOW:
            self.assertEqual(best_house(notice, ()), plainly_best(notice, ()))

    def test_kind(self):
        found = best_house(C, ())
        self.assertEqual([type(found), type(found[0]), type(found[1])], [tuple, int, tuple])


class FewestTest(unittest.TestCase):

    def same(self, notice, decided):
        many = fewest_questions(notice, decided)
        self.assertEqual(many, plainly_fewest(notice, decided), (notice, decided))
        plan = plan_for(notice, decided)
        self.assertEqual(questions_of(plan), many, (notice, decided))
        self.assertTrue(plainly_settles(notice, decided, plan), (notice, decided, plan))
        self.assertIs(settles(notice, decided, plan), True)
        numbers = left(notice, decided) or range(len(readings(notice)))
        self.assertLessEqual(set(ends_of(plan)), set(numbers), (notice, decided, plan))
        return many

    def test_ordinary_ones(self):
        self.assertEqual([self.same(notice, ()) for notice in (A, B, C, D, SAME)], [0, 2, 1, 1, 0])
        self.assertEqual([self.same(("not",) * 15 + one, ()) for one in (A, C)], [0, 1])
        self.assertEqual(plan_for(C, ()), ("ask", EMPTY, 0, 1))

    def test_more_than_halves(self):
        self.assertEqual([len(unlike_left(notice, ())) for notice in SLOW], [4, 7, 8])
        self.assertEqual([self.same(notice, ()) for notice in SLOW], [3, 4, 4])

    def test_with_decided_houses(self):
        self.assertEqual(self.same(B, ((EMPTY, True),)), 1)
        self.assertEqual(self.same(B, ((EMPTY, True), ((0, 0, 0, 2), True))), 0)
        self.assertEqual(plan_for(B, ((EMPTY, True), ((0, 0, 0, 2), True))), 2)
        self.assertEqual(plan_for(B, ((EMPTY, True), ((0, 0, 0, 2), False))), 3)

    def test_none_left(self):
        for notice, decided in ((C, (((0, 1, 0, 0), False),)), (B, ((EMPTY, True), (EMPTY, False))),
                                (JUST_300, ((EMPTY, True), (EMPTY, False)))):
            self.assertEqual(left(notice, decided), [])
            self.assertEqual(self.same(notice, decided), 0)

    def test_search(self):
        dice = random.Random(16)
        tried = []
        for notice in read_soon(400, 80):
            for many in (0, 1, 2):
                decided = fair_cases(dice, notice, many)
                if len(unlike_left(notice, decided)) <= 8:
                    tried.append(self.same(notice, decided))
        self.assertGreater(min(tried.count(many) for many in (0, 1, 2, 3)), 20)

    def test_eight_and_nine(self):
        self.assertEqual([len(unlike_left(notice, ())) for notice in (EIGHT, NINE)], [8, 9])
        self.assertEqual(self.same(EIGHT, ()), 3)
        for function in (fewest_questions, plan_for):
            with self.assertRaises(TooMany) as caught:
                function(NINE, ())
            self.assertEqual(caught.exception.limit, 8)
        many, house = best_house(NINE, ())
        for truth in (True, False):
            self.assertLessEqual(len(unlike_left(NINE, ((house, truth),))), many)
            self.same(NINE, ((house, truth),))

    def test_many_readings_of_which_few_are_unlike(self):
        notice = ("not",) * 13 + A + ("and",) + A
        self.assertEqual(len(readings(notice)), 14)
        self.assertEqual(self.same(notice, ()), 1)
        for notice in read_soon(60, 300):
            formulas = readings(notice)
            if len(formulas) > 8 and len(groups(notice)) <= 8:
                self.same(notice, ())

    def test_just_300(self):
        dice = random.Random(17)
        for _ in range(6):
            decided = fair_cases(dice, JUST_300, 6)
            if len(unlike_left(JUST_300, decided)) <= 8:
                self.same(JUST_300, decided)

    def test_kinds(self):
        self.assertIs(type(fewest_questions(A, ())), int)
        self.assertIs(type(plan_for(A, ())), int)
        self.assertIs(type(plan_for(B, ())), tuple)
        self.assertEqual(plan_for(B, ()), plan_for(B, ()))


class SettlesTest(unittest.TestCase):

    def same(self, notice, decided, plan, right):
        self.assertIs(settles(notice, decided, plan), right, plan)
        self.assertIs(plainly_settles(notice, decided, plan), right, plan)

    def test_numbers_alone(self):
        self.same(A, (), 0, True)
        self.same(C, (), 0, False)
        self.same(C, (), 1, False)
        self.same(C, (((0, 1, 0, 1), True),), 1, True)
        self.same(C, (((0, 1, 0, 1), True),), 0, False)
        for number in (0, 1, 2, 3, 4):
            notice = A + ("or",) + A + ("and",) + A + ("and",) + A
            self.same(notice, (), number, True)

    def test_one_question(self):
        self.same(C, (), ("ask", EMPTY, 0, 1), True)
        self.same(C, (), ("ask", EMPTY, 1, 0), False)
        self.same(C, (), ("ask", EMPTY, 0, 0), False)
        self.same(C, (), ("ask", (0, 1, 0, 0), 0, 1), False)
        self.same(C, (), ("ask", (10 ** 30, 0, 10 ** 30, 0), 0, 1), True)
        self.same(C, (), ("ask", (7, 10 ** 30, 0, 10 ** 30), 1, 0), True)

    def test_ends_at_one_that_is_the_same(self):
        notice = A + ("unless",) + A + ("or",) + A
        self.assertEqual(groups(notice), [(0, 1, 2), (3,)])
        for number in (0, 1, 2):
            self.same(notice, (), ("ask", EMPTY, number, 3), True)
            self.same(notice, (), ("ask", EMPTY, 3, number), False)

    def test_asks_for_the_same_house_twice(self):
        once = ("ask", EMPTY, 0, 1)
        self.same(C, (), ("ask", EMPTY, once, once), True)
        self.same(C, (), ("ask", EMPTY, once, 1), True)
        self.same(C, (), ("ask", EMPTY, 1, once), False)
        self.same(B, (), ("ask", EMPTY, plan_for(B, ()), plan_for(B, ())), True)

    def test_ends_that_no_reading_reaches(self):
        self.same(C, (), ("ask", EMPTY, ("ask", EMPTY, 0, 1), ("ask", EMPTY, 0, 1)), True)
        self.same(C, (), ("ask", (0, 1, 0, 0), ("ask", EMPTY, 0, 1), 0), True)
        self.same(A, (), ("ask", EMPTY, 0, 0), True)
        # Only reading 1 is left, and it lets the empty house.
        self.same(D, (((0, 0, 1, 1), True),), ("ask", EMPTY, 1, 0), True)

    def test_decided_houses_say_what_is_asked(self):
        decided = ((EMPTY, True),)
        self.same(B, decided, ("ask", (0, 0, 0, 2), 2, 3), True)
        self.same(B, decided, ("ask", (0, 0, 0, 2), 3, 2), False)
        self.same(B, (), ("ask", (0, 0, 0, 2), 2, 3), False)
        self.same(B, decided, plan_for(B, ()), True)
        self.same(B, (), plan_for(B, decided), False)

    def test_none_left(self):
        for plan in (0, 1, ("ask", EMPTY, 0, 0), asked(7)):
            self.same(C, (((0, 1, 0, 0), False),), plan, True)

    def test_seven_and_eight_questions(self):
        plan = ("ask", EMPTY, 0, 1)
        for many in (1, 2, 3, 4, 5, 6):
            plan = ("ask", (0, many, 0, many), plan, plan)
        self.assertEqual(questions_of(plan), 7)
        self.same(C, (), plan, True)
        self.same(C, (), asked(7), False)
        self.same(A, (), asked(7), True)
        one_sided = ("ask", EMPTY, 0, 1)
        for _ in range(6):
            one_sided = ("ask", (0, 1, 0, 0), one_sided, 0)
        self.same(C, (), one_sided, True)
        with self.assertRaises(InvalidPlan):
            settles(C, (), ("ask", EMPTY, plan, 0))
        with self.assertRaises(InvalidPlan):
            settles(C, (), ("ask", (0, 1, 0, 0), one_sided, 0))

    def test_grown_plans(self):
        dice = random.Random(18)
        found = []
        for notice in read_soon(200, 12):
            many = len(readings(notice))
            for decided in ((), fair_cases(dice, notice, 2)):
                for _ in range(6):
                    plan = self.grown_plan(dice, many, 4)
                    right = plainly_settles(notice, decided, plan)
                    self.same(notice, decided, plan, right)
                    found.append(right)
        self.assertGreater(min(found.count(True), found.count(False)), 200)

    def grown_plan(self, dice, many, depth):
        if depth == 0 or dice.random() < 0.3:
            return dice.randrange(many)
        house = dice.choice([dice.choice(HOUSES[:60]), tuple(dice.choice((0, 1, 10 ** 30)) for _ in range(4))])
        return ("ask", house, self.grown_plan(dice, many, depth - 1), self.grown_plan(dice, many, depth - 1))

    def test_spoilt_plans(self):
        for notice in (B, EIGHT) + SLOW:
            plan = plan_for(notice, ())
            self.same(notice, (), plan, True)
            spoilt = ("ask", plan[1], plan[3], plan[2])
            self.same(notice, (), spoilt, False)

    def test_just_300(self):
        dice = random.Random(19)
        decided = fair_cases(dice, JUST_300, 6)
        for number in left(JUST_300, decided) + [0, 299]:
            self.same(JUST_300, decided, number, plainly_settles(JUST_300, decided, number))


class ErrorsTest(ErrorsCase):

    def test_wrong_arguments(self):
        wrong = [(InvalidNotice, WRONG_NOTICES), (InvalidCases, WRONG_CASES)]
        for function in (best_house, fewest_questions, plan_for):
            self.takes_nothing_wrong(function, (B, ((EMPTY, True),)), wrong)
        self.takes_nothing_wrong(settles, (B, ((EMPTY, True),), 0), wrong + [(InvalidPlan, WRONG_PLANS)])

    def test_numbers_of_readings(self):
        for notice in (A, B, C, D, JUST_300):
            many = len(readings(notice))
            for number in (many, many + 1, -1, -many, 300):
                self.raises(InvalidPlan, settles, notice, (), number)
                self.raises(InvalidPlan, settles, notice, (), ("ask", EMPTY, 0, number))
                self.raises(InvalidPlan, settles, notice, ((EMPTY, True), (EMPTY, False)), ("ask", EMPTY, number, 0))
            settles(notice, (), ("ask", VAST, many - 1, 0))

    def test_more_than_300_readings(self):
        for notice in (FEW_MORE, TWO_MORE, VERY_MANY):
            for decided in ((), ((EMPTY, True),), ((EMPTY, True), (EMPTY, False))):
                for function in (best_house, fewest_questions, plan_for):
                    self.raises_too_many(300, function, notice, decided)
                self.raises_too_many(300, settles, notice, decided, 0)
            for decided in WRONG_CASES:
                for function in (best_house, fewest_questions, plan_for):
                    self.raises(InvalidCases, function, notice, decided)
                self.raises(InvalidCases, settles, notice, decided, None)

    def test_plan_comes_behind_300_readings(self):
        for plan in WRONG_PLANS:
            self.raises_too_many(300, settles, FEW_MORE, (), plan)
        self.raises_too_many(300, settles, VERY_MANY, (), None)

    def test_more_than_8_comes_last(self):
        for notice in (NINE, JUST_300):
            for function in (fewest_questions, plan_for):
                self.raises_too_many(8, function, notice, ())
                self.raises(InvalidCases, function, notice, None)
            # This limit is not one of theirs.
            self.assertGreater(best_house(notice, ())[0], 1)
            self.assertIs(settles(notice, (), 0), False)


if __name__ == "__main__":
    unittest.main()
