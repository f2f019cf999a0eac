"""Tests of what the document promises over the whole program: 2, 3 and 22, and marks that are exchanged."""

import inspect
import itertools
import random
import unittest

from noticeways import asking, books, brackets, cases, comparing, errors, notices, plain, readings, texts, truths
from noticeways.asking import best_house, fewest_questions, plan_for, settles
from noticeways.books import alike, clash, count_meanings, only_in, silent
from noticeways.brackets import least_brackets
from noticeways.cases import left, told
from noticeways.comparing import groups, harmless, parting, relation
from noticeways.desks import Desk
from noticeways.errors import (
    InvalidBook, InvalidCases, InvalidFormula, InvalidHouse, InvalidIndex, InvalidNotice, InvalidNumber, InvalidPlan,
    InvalidText, InvalidTruth, NoReading, NothingToUndo, TooMany,
)
from noticeways.plain import reach, table
from noticeways.texts import notice_text, read_notice
from noticeways.truths import count_houses, first_house, holds, how
from noticeways.values import Notice
from tests.deciding import walked
from tests.plainly import SIMPLE, grown_formulas
from tests.reckoning import A, B, C, D, FEW_MORE, HAS, VERY_MANY, grown_notices
from tests.test_form import FILES
from tests.wrong import (
    WRONG_BOOKS, WRONG_CASES, WRONG_FORMULAS, WRONG_HOUSES, WRONG_INDICES, WRONG_NOTICES, WRONG_NUMBERS, WRONG_PLANS,
    WRONG_TEXTS, WRONG_TRUTHS, ErrorsCase,
)

EMPTY = (0, 0, 0, 0)
OBJECTS = [Notice(*A), Desk(A)]
NOTICE, FORMULA = (InvalidNotice, WRONG_NOTICES + OBJECTS), (InvalidFormula, WRONG_FORMULAS + OBJECTS)
HOUSE, TRUTH = (InvalidHouse, WRONG_HOUSES + OBJECTS), (InvalidTruth, WRONG_TRUTHS + OBJECTS)
DECIDED, PLAN = (InvalidCases, WRONG_CASES + OBJECTS), (InvalidPlan, WRONG_PLANS + OBJECTS)
BOOK, NUMBER = (InvalidBook, WRONG_BOOKS + OBJECTS), (InvalidNumber, WRONG_NUMBERS + OBJECTS)
TEXT, INDEX = (InvalidText, WRONG_TEXTS + OBJECTS), (InvalidIndex, WRONG_INDICES + OBJECTS)
DECIDED_ONE = ((EMPTY, True),)

# Each function: the module, the right arguments, and what is wrong in each place.
FUNCTIONS = {
    "readings": (readings, (B,), [NOTICE]),
    "is_reading": (readings, (B, A[0]), [NOTICE, FORMULA]),
    "holds": (truths, (A[0], EMPTY), [FORMULA, HOUSE]),
    "how": (truths, (A[0],), [FORMULA]),
    "first_house": (truths, (A[0], True), [FORMULA, TRUTH]),
    "count_houses": (truths, (A[0], 3), [FORMULA, NUMBER]),
    "relation": (comparing, (A[0], A[0]), [FORMULA, FORMULA]),
    "parting": (comparing, (A[0], A[0]), [FORMULA, FORMULA]),
    "groups": (comparing, (B,), [NOTICE]),
    "harmless": (comparing, (B,), [NOTICE]),
    "left": (cases, (B, DECIDED_ONE), [NOTICE, DECIDED]),
    "told": (cases, (B, DECIDED_ONE, EMPTY), [NOTICE, DECIDED, HOUSE]),
    "best_house": (asking, (B, DECIDED_ONE), [NOTICE, DECIDED]),
    "fewest_questions": (asking, (B, DECIDED_ONE), [NOTICE, DECIDED]),
    "plan_for": (asking, (B, DECIDED_ONE), [NOTICE, DECIDED]),
    "settles": (asking, (B, DECIDED_ONE, 0), [NOTICE, DECIDED, PLAN]),
    "notice_text": (texts, (B,), [NOTICE]),
    "read_notice": (texts, ("all-a-b",), [TEXT]),
    "least_brackets": (brackets, (B,), [NOTICE]),
    "count_meanings": (books, ((B, C),), [BOOK]),
    "clash": (books, ((B, C),), [BOOK]),
    "silent": (books, ((B, C),), [BOOK]),
    "alike": (books, ((B, C), (A,)), [BOOK, BOOK]),
    "only_in": (books, ((B, C), (A,)), [BOOK, BOOK]),
    "reach": (plain, (A[0],), [FORMULA]),
    "table": (plain, (A[0],), [FORMULA]),
}
# The functions that answer for any value.
ASKING = {"is_notice": notices, "is_house": notices, "is_formula": notices, "is_book": books}


def fair_notices(many, signs, most):
    """Grown notices that have at most so many readings."""
    found = []
    for notice in grown_notices(many, signs):
        try:
            if len(readings.readings(notice)) <= most:
                found.append(notice)
        except TooMany:
            continue
    return found


class ErrorsTest(ErrorsCase):

    def test_wrong_values_in_each_place(self):
        for name, (module, right, wrong) in FUNCTIONS.items():
            with self.subTest(name=name):
                self.takes_nothing_wrong(getattr(module, name), right, wrong)

    def test_right_values(self):
        for name, (module, right, _) in FUNCTIONS.items():
            function = getattr(module, name)
            first = function(*right)
            self.assertEqual(function(*right), first, name)
            if isinstance(first, list):
                first.append("spoilt")
                self.assertNotEqual(function(*right), first, name)

    def test_functions_that_answer_for_any_value(self):
        values = list(itertools.chain(*[wrong[1] for _, _, places in FUNCTIONS.values() for wrong in places]))
        for name, module in ASKING.items():
            for value in values + [A, B, EMPTY, A[0], (A, B)]:
                self.assertIs(type(getattr(module, name)(value)), bool, name)
            for value in OBJECTS + [(one,) for one in OBJECTS] + [(one,) * 4 for one in OBJECTS]:
                self.assertIs(getattr(module, name)(value), False, name)

    def test_objects_within_values(self):
        for one in OBJECTS:
            for error, name, *arguments in (
                    (InvalidNotice, "readings", ("not", one)), (InvalidNotice, "groups", (one, "and", A[0])),
                    (InvalidNotice, "notice_text", (("all", one, "b"),)),
                    (InvalidNotice, "readings", ((one, "a", "b"),)),
                    (InvalidNotice, "least_brackets", (("has", one, "a"),)), (InvalidFormula, "how", ("not", one)),
                    (InvalidFormula, "reach", (one, A[0])), (InvalidFormula, "table", ("and", A[0], one)),
                    (InvalidFormula, "how", ("least", one, "a")), (InvalidHouse, "holds", A[0], (0, 0, 0, one)),
                    (InvalidCases, "left", B, (one,)), (InvalidCases, "left", B, ((EMPTY, one),)),
                    (InvalidCases, "best_house", B, ((one, True),)),
                    (InvalidPlan, "settles", B, (), (one, EMPTY, 0, 0)),
                    (InvalidPlan, "settles", B, (), ("ask", one, 0, 0)), (InvalidBook, "clash", (A, one)),
                    (InvalidPlan, "settles", B, (), ("ask", EMPTY, 0, one)), (InvalidBook, "alike", (A,), (one, A))):
                self.raises(error, getattr(FUNCTIONS[name][0], name), *arguments)

    def test_each_class_of_errors_is_raised_somewhere(self):
        full = Desk(A)
        for _ in range(6):
            full.decide(EMPTY, True)
        for error, attribute, function, arguments in (
                (InvalidNotice, None, Desk, ((),)), (InvalidHouse, None, Notice(*A), (None,)),
                (InvalidFormula, None, reach, (A,)), (InvalidTruth, None, full.decide, (EMPTY, 1)),
                (InvalidCases, None, best_house, (A, None)), (InvalidPlan, None, settles, (A, (), 1)),
                (InvalidBook, None, silent, (A,)), (InvalidNumber, None, count_houses, (A[0], -1)),
                (InvalidIndex, None, full.drop, (6,)), (NoReading, None, full.decide, (EMPTY, False)),
                (NothingToUndo, None, Desk(A).undo, ()), (InvalidText, ("word", 2), read_notice, ("not ",)),
                (InvalidText, ("word", 0), Notice.read, (None,)), (TooMany, ("limit", 6), full.decide, (EMPTY, True)),
                (TooMany, ("limit", 300), Desk, (VERY_MANY,)),
                (TooMany, ("limit", 3), least_brackets, (D + ("or",) + A,)),
                (TooMany, ("limit", 9), least_brackets, (("not",) * 9 + A,))):
            with self.assertRaises(errors.NoticeError) as caught:
                function(*arguments)
            self.assertIs(type(caught.exception), error)
            if attribute:
                self.assertEqual(getattr(caught.exception, attribute[0]), attribute[1])

    def test_limits_come_behind_all_wrong_arguments(self):
        for name, (module, right, wrong) in FUNCTIONS.items():
            if wrong[0] is not NOTICE or name in ("is_reading", "notice_text"):
                continue
            for notice in (FEW_MORE, VERY_MANY):
                self.raises_too_many(300, getattr(module, name), notice, *right[1:])
                for at in range(1, len(right)):
                    for value in wrong[at][1]:
                        arguments = (notice,) + right[1:at] + (value,) + right[at + 1:]
                        if wrong[at] is PLAN:
                            self.raises_too_many(300, getattr(module, name), *arguments)
                        else:
                            self.raises(wrong[at][0], getattr(module, name), *arguments)


class InterfaceTest(unittest.TestCase):

    def test_arguments_by_position(self):
        for name, (module, right, _) in FUNCTIONS.items():
            found = inspect.signature(getattr(module, name)).parameters.values()
            self.assertEqual(len(found), len(right), name)
        for name, module in ASKING.items():
            self.assertEqual(len(inspect.signature(getattr(module, name)).parameters), 1)

    def test_defined_in_their_files(self):
        for name, (module, _, _) in FUNCTIONS.items():
            self.assertEqual(getattr(module, name).__module__, module.__name__)
        for name, module in ASKING.items():
            self.assertEqual(getattr(module, name).__module__, module.__name__)

    def test_all_files_of_the_interface(self):
        names = [one.stem for one in FILES]
        for name in ("notices", "readings", "truths", "comparing", "cases", "asking", "texts", "brackets", "books",
                     "plain", "values", "desks", "errors"):
            self.assertIn(name, names)


class GuaranteesTest(unittest.TestCase):

    def test_readings(self):
        dice = random.Random(50)
        for notice in fair_notices(120, 9, 60):
            found = readings.readings(notice)
            for formula in found:
                self.assertTrue(readings.is_reading(notice, formula))
            for formula in [dice.choice(found) for _ in range(3)]:
                for other in (("not", formula), ("and", formula, formula), formula[1], formula[-1]):
                    if notices.is_formula(other):
                        self.assertEqual(readings.is_reading(notice, other), other in found)

    def test_formulas_in_the_same_houses(self):
        for notice in fair_notices(60, 9, 12):
            formulas = readings.readings(notice)
            numbers = {number: at for at, group in enumerate(groups(notice)) for number in group}
            for one, other in itertools.product(range(len(formulas)), repeat=2):
                first, second = formulas[one], formulas[other]
                same = numbers[one] == numbers[other]
                self.assertEqual(parting(first, second) is None, same)
                self.assertEqual((reach(first), table(first)) == (reach(second), table(second)), same)
                self.assertEqual(relation(first, second) == "same", same)

    def test_plans_at_a_desk(self):
        many = []
        for notice in fair_notices(150, 9, 40) + [B, C, D]:
            if len(groups(notice)) > 8 or fewest_questions(notice, ()) > 6:
                continue
            plan, most = plan_for(notice, ()), fewest_questions(notice, ())
            for number, formula in enumerate(readings.readings(notice)):
                desk, rest = Desk(notice), plan
                while isinstance(rest, tuple):
                    self.assertFalse(desk)
                    truth = holds(formula, rest[1])
                    desk.decide(rest[1], truth)
                    rest = rest[2] if truth else rest[3]
                self.assertTrue(desk)
                self.assertLessEqual(len(desk), most)
                self.assertIn(number, desk.left)
                self.assertIn(rest, desk.left)
                self.assertEqual(rest, walked(plan, formula))
            many.append(most)
        self.assertGreater(min(many.count(most) for most in (0, 1, 2, 3)), 3)

    def test_brackets_make_it_plain(self):
        for notice in fair_notices(200, 9, 300):
            if sum(isinstance(sign, tuple) for sign in notice) > 3:
                continue
            for one in least_brackets(notice):
                self.assertTrue(harmless(one))
                self.assertTrue(Notice(*one))
                self.assertEqual(count_meanings((one,)), 1)
                self.assertEqual([sign for sign in one if sign not in ("(", ")")],
                                 [sign for sign in notice if sign not in ("(", ")")])
                # Brackets only leave out readings.
                self.assertLessEqual(set(readings.readings(one)), set(readings.readings(notice)))

    def test_books_that_are_alike(self):
        dice = random.Random(51)
        pool = fair_notices(40, 5, 10)
        for _ in range(200):
            one, other = [tuple(dice.choice(pool) for _ in range(dice.randint(1, 3))) for _ in range(2)]
            self.assertEqual(alike(one, other), only_in(one, other) == 0 and only_in(other, one) == 0)

    def test_desks_tell_what_the_functions_tell(self):
        dice = random.Random(52)
        for notice in fair_notices(60, 9, 40):
            desk = Desk(notice)
            for _ in range(3):
                house = tuple(dice.choice((0, 1, 2, 5)) for _ in range(4))
                said = desk.says(house)
                self.assertIs(said, told(notice, desk.decided, house))
                desk.decide(house, said is not False)
                self.assertEqual(desk.left, tuple(left(notice, desk.decided)))
                best = best_house(notice, desk.decided)
                self.assertEqual(desk.best(), best and best[1])
                self.assertEqual(best is None, bool(desk))


def exchanged(value):
    """A notice, a formula or a clause with the marks exchanged."""
    if isinstance(value, tuple):
        return tuple(exchanged(item) for item in value)
    return {"a": "b", "b": "a"}.get(value, value) if isinstance(value, str) else value


def moved(house):
    """A house with sorts 1 and 2 exchanged."""
    return (house[0], house[2], house[1], house[3])


def moved_cases(decided):
    return tuple((moved(house), truth) for house, truth in decided)


class ExchangedTest(unittest.TestCase):

    HOUSES = [house for house in itertools.product(range(3), repeat=4)][::2]

    def test_formulas(self):
        for formula in SIMPLE + grown_formulas(80, 5, 53):
            other = exchanged(formula)
            self.assertEqual(how(formula), how(other))
            for house in self.HOUSES[::3]:
                self.assertIs(holds(formula, house), holds(other, moved(house)))
            for people in (0, 1, 4, 10 ** 30):
                self.assertEqual(count_houses(formula, people), count_houses(other, people))
            self.assertEqual(reach(other), moved(reach(formula)))
            self.assertEqual(table(other), sorted(moved(house) for house in table(formula)))
            for truth in (True, False):
                first, second = first_house(formula, truth), first_house(other, truth)
                self.assertEqual(first and sum(first), second and sum(second))

    def test_pairs_of_formulas(self):
        formulas = SIMPLE[::2] + grown_formulas(20, 4, 54)
        for one, other in itertools.product(formulas, repeat=2):
            self.assertEqual(relation(one, other), relation(exchanged(one), exchanged(other)))
            first, second = parting(one, other), parting(exchanged(one), exchanged(other))
            self.assertEqual(first and sum(first), second and sum(second))

    def test_notices(self):
        dice = random.Random(55)
        for notice in fair_notices(150, 9, 60):
            other = exchanged(notice)
            first, second = readings.readings(notice), readings.readings(other)
            self.assertEqual(sorted(map(exchanged, first)), second)
            numbers = [second.index(exchanged(formula)) for formula in first]
            self.assertEqual(sorted(tuple(sorted(numbers[one] for one in group)) for group in groups(notice)),
                             groups(other))
            self.assertEqual(harmless(notice), harmless(other))
            decided = tuple((dice.choice(self.HOUSES), dice.random() < 0.5) for _ in range(dice.randint(0, 2)))
            self.assertEqual(sorted(numbers[one] for one in left(notice, decided)), left(other, moved_cases(decided)))
            for house in self.HOUSES[::9]:
                self.assertIs(told(notice, decided, house), told(other, moved_cases(decided), moved(house)))
                self.assertEqual(sorted(zip(numbers, Notice(*notice)(house))),
                                 list(enumerate(Notice(*other)(moved(house)))))
            self.asked(notice, other, decided, numbers)
            self.assertEqual(Notice(*notice).like(Notice(*other)), Notice(*other).like(Notice(*notice)))

    def asked(self, notice, other, decided, numbers):
        """Check what asking.py tells of both notices, with the numbers of the readings of the one at the other."""
        first, second = best_house(notice, decided), best_house(other, moved_cases(decided))
        self.assertEqual(first and (first[0], sum(first[1])), second and (second[0], sum(second[1])))
        try:
            many = fewest_questions(notice, decided)
        except TooMany:
            self.assertRaises(TooMany, fewest_questions, other, moved_cases(decided))
            return
        self.assertEqual(many, fewest_questions(other, moved_cases(decided)))
        plan = self.moved_plan(plan_for(notice, decided), numbers)
        self.assertIs(settles(other, moved_cases(decided), plan), True)

    def moved_plan(self, plan, numbers):
        if isinstance(plan, int):
            return numbers[plan]
        return ("ask", moved(plan[1]), self.moved_plan(plan[2], numbers), self.moved_plan(plan[3], numbers))

    def test_texts_and_brackets(self):
        for notice in fair_notices(150, 9, 300):
            other = exchanged(notice)
            words = [word.split("-") for word in notice_text(notice).split(" ")]
            text = " ".join("-".join(word[:1] + [exchanged(one) for one in word[1:]]) for word in words)
            self.assertEqual(notice_text(other), text)
            self.assertEqual(read_notice(text), other)
            if sum(isinstance(sign, tuple) for sign in notice) <= 3:
                self.assertEqual(sorted(map(notice_text, map(exchanged, least_brackets(notice)))),
                                 [notice_text(one) for one in least_brackets(other)])

    def test_books(self):
        dice = random.Random(56)
        pool = fair_notices(80, 7, 16)
        for _ in range(150):
            one, two = [tuple(dice.choice(pool) for _ in range(dice.randint(1, 3))) for _ in range(2)]
            for function in (count_meanings, clash, silent):
                self.assertEqual(function(one), function(exchanged(one)))
            for function in (alike, only_in):
                self.assertEqual(function(one, two), function(exchanged(one), exchanged(two)))

    def test_desks(self):
        dice = random.Random(57)
        for notice in fair_notices(60, 9, 30):
            desk, other = Desk(notice), Desk(exchanged(notice))
            formula = dice.choice(readings.readings(notice))
            for _ in range(4):
                house = dice.choice(self.HOUSES)
                self.assertIs(desk.says(house), other.says(moved(house)))
                truth = holds(formula, house) if notices.is_formula(formula) else desk.says(house) is not False
                self.assertEqual(desk.decide(house, truth), other.decide(moved(house), truth))
                self.assertEqual(bool(desk), bool(other))
                self.assertEqual(len(desk.left), len(other.left))
            self.assertEqual(other.decided, moved_cases(desk.decided))
            desk.drop(1)
            other.drop(1)
            self.assertEqual(len(desk.left), len(other.left))


class ArgumentsTest(unittest.TestCase):

    def test_lists_are_not_kept(self):
        signs = list(B)
        n = Notice(*signs)
        signs.clear()
        self.assertEqual(n.source, B)

    def test_results_are_new(self):
        for function, arguments in ((readings.readings, (B,)), (groups, (B,)), (left, (B, ())), (least_brackets, (D,)),
                                    (silent, ((A, A),)), (table, (A[0],))):
            first = function(*arguments)
            kept = list(first)
            first.clear()
            self.assertEqual(function(*arguments), kept)

    def test_has_is_no_notice_by_itself(self):
        self.assertFalse(notices.is_notice(HAS))
        self.assertTrue(notices.is_notice((HAS,)))


if __name__ == "__main__":
    unittest.main()
