"""Tests of promise 12, and of 2, 4 and 6 as far as they speak of it: in which houses a formula holds."""

import itertools
import random
import unittest

from noticeways import truths
from noticeways.errors import InvalidFormula, InvalidHouse, InvalidNumber, InvalidTruth
from noticeways.notices import is_formula, is_house
from noticeways.readings import readings
from noticeways.truths import count_houses, first_house, holds, how
from tests import plainly
from tests.plainly import HOUSES, SIMPLE, full, grown_formulas, houses_with, plainly_holds, where
from tests.reckoning import A
from tests.wrong import WRONG_FORMULAS, WRONG_HOUSES, WRONG_NUMBERS, WRONG_TRUTHS, ErrorsCase, deep

VAST = 10 ** 30
SOME = ("some", "a", "b")
# Formulas of two levels, of several, and as deep as can be.
SHALLOW = [("not", one) for one in SIMPLE] + [
    (word, one, other)
    for at, one in enumerate(SIMPLE) for word, other in zip(("and", "or", "if", "other") * 6, SIMPLE[at:] + SIMPLE[:at])
]
GROWN = grown_formulas(120, 4, 1) + grown_formulas(40, 10, 2)
LARGE = [full(word, 10) for word in ("and", "or", "if", "other")]


def all_with(people):
    """How many houses there are with so many people, by filling the sorts one by one."""
    ways = people + 1
    return ways * (ways + 1) * (ways + 2) // 6


class DocumentTest(unittest.TestCase):

    def test_holds_and_how(self):
        found = [holds(("just", 2, "a"), (9, 1, 0, 1)), holds(("all", "a", "b"), (5, 0, 2, 7)),
                 holds(("if", ("some", "a", "b"), ("all", "b", "a")), (0, 0, 1, 1)),
                 how(("or", ("some", "a", "b"), ("no", "b", "a"))),
                 how(("and", ("no", "a", "b"), ("least", 1, "both"))), how(A[0])]
        self.assertEqual(found, [True, True, False, "always", "never", "sometimes"])

    def test_first_house_and_count_houses(self):
        found = [first_house(("just", 2, "a"), True), first_house(A[0], False),
                 first_house(("if", A[0], A[0]), False), count_houses(("least", 1, "both"), 2),
                 count_houses(("no", "a", "b"), 3),
                 count_houses(A[0], 10 ** 30) == (10 ** 30 + 2) * (10 ** 30 + 1) // 2]
        self.assertEqual(found, [(0, 0, 0, 2), (0, 1, 0, 0), None, 4, 10, True])

    def test_defined_in_the_file(self):
        for name in ("holds", "how", "first_house", "count_houses"):
            self.assertEqual(getattr(truths, name).__module__, "noticeways.truths")


class HoldsTest(unittest.TestCase):

    def same(self, formula, house):
        self.assertIs(holds(formula, house), plainly_holds(formula, house), (formula, house))

    def test_simple_ones(self):
        for formula in SIMPLE:
            for house in itertools.product(range(6), repeat=4):
                self.same(formula, house)

    def test_many_formulas(self):
        dice = random.Random(3)
        houses = list(itertools.product(range(6), repeat=4))
        for formula in SHALLOW + GROWN:
            for house in dice.sample(houses, 20):
                self.same(formula, house)

    def test_vast_houses(self):
        houses = list(itertools.product((0, 1, VAST), repeat=4))
        for formula in SIMPLE + GROWN:
            for house in houses:
                self.same(formula, house)

    def test_each_word(self):
        self.assertEqual([holds(("all", "a", "b"), house) for house in ((4, 0, 4, 4), (0, 1, 0, 0))], [True, False])
        self.assertEqual([holds(("all", "b", "a"), house) for house in ((4, 4, 0, 4), (0, 0, 1, 0))], [True, False])
        for pair in (("a", "b"), ("b", "a")):
            self.assertEqual([holds(("some",) + pair, house) for house in ((4, 4, 4, 0), (0, 0, 0, 1))], [False, True])
            self.assertEqual([holds(("no",) + pair, house) for house in ((4, 4, 4, 0), (0, 0, 0, 1))], [True, False])
        for many in (1, 2, 3):
            for word, more in (("least", True), ("just", False)):
                self.assertEqual([holds((word, many, "a"), (9, have - 1, 9, 1)) for have in (many - 1 or 1, many + 1)],
                                 [many == 1, more])
                self.assertEqual([holds((word, many, "b"), (9, 9, have, 0)) for have in (many - 1, many, many + 1)],
                                 [False, True, more])
                self.assertEqual([holds((word, many, "both"), (9, 9, 9, have)) for have in (many - 1, many, VAST)],
                                 [False, True, more])

    def test_truths_of_pairs(self):
        always, never = ("or", SOME, ("no", "a", "b")), ("and", SOME, ("no", "a", "b"))
        ways = list(itertools.product((always, never), repeat=2))
        for word, right in (("and", [True, False, False, False]), ("or", [True, True, True, False]),
                            ("if", [True, False, True, True]), ("other", [False, True, True, False])):
            for house in ((0, 0, 0, 0), (1, 2, 3, 4), (0, 0, 0, 1)):
                self.assertEqual([holds((word, one, other), house) for one, other in ways], right)
        self.assertEqual([holds(("not", one), (0, 0, 0, 0)) for one in (always, never)], [False, True])

    def test_large_ones(self):
        for formula in LARGE:
            self.assertTrue(is_formula(formula))
            for house in ((0, 0, 0, 0), (1, 0, 1, 0), (0, 2, 1, 3), (VAST, 0, VAST, 1)):
                self.same(formula, house)


class SearchTest(unittest.TestCase):

    def same(self, formula):
        found = where(formula)
        others = where(("not", formula))
        word = "sometimes" if found and others else "always" if found else "never"
        self.assertEqual(how(formula), word, formula)
        self.assertEqual(first_house(formula, True), found[0] if found else None, formula)
        self.assertEqual(first_house(formula, False), others[0] if others else None, formula)
        return word

    def test_many_formulas(self):
        words = [self.same(formula) for formula in SIMPLE + SHALLOW + GROWN]
        self.assertGreater(min(words.count(word) for word in ("always", "never", "sometimes")), 5)

    def test_large_ones(self):
        for formula in (LARGE[0], LARGE[3]):
            self.same(formula)

    def test_with_itself(self):
        for formula in SIMPLE + GROWN[:40]:
            if not is_formula(("not", formula)):
                continue
            for word, found in (("other", "never"), ("if", "always")):
                self.assertEqual(self.same((word, formula, formula)), found)
                self.assertEqual(how((word, formula, formula)), found)
        self.assertEqual([first_house(("other", A[0], A[0]), truth) for truth in (True, False)], [None, (0, 0, 0, 0)])
        self.assertEqual([first_house(("if", A[0], A[0]), truth) for truth in (True, False)], [(0, 0, 0, 0), None])

    def test_four_of_a_sort(self):
        three = [("just", 3, mark) for mark in ("a", "b", "both")]
        more = [("and", ("least", 3, mark), ("not", ("just", 3, mark))) for mark in ("a", "b", "both")]
        self.assertEqual([first_house(one, True) for one in three], [(0, 0, 0, 3)] * 3)
        self.assertEqual([first_house(one, True) for one in more], [(0, 0, 0, 4)] * 3)
        none = ("no", "a", "b")
        self.assertEqual([first_house(("and", none, one), True) for one in more], [(0, 4, 0, 0), (0, 0, 4, 0), None])
        self.assertEqual(first_house(("and", ("and", more[0], more[1]), ("not", SOME)), True), (0, 4, 4, 0))
        self.assertEqual(first_house(("and", ("just", 3, "both"), ("and", more[0], more[1])), True), (0, 1, 1, 3))

    def test_order_of_houses(self):
        self.assertEqual(first_house(("least", 1, "a"), True), (0, 0, 0, 1))
        self.assertEqual(first_house(("or", ("just", 1, "a"), ("just", 1, "b")), True), (0, 0, 0, 1))
        one = ("and", ("no", "a", "b"), ("or", ("least", 1, "a"), ("least", 1, "b")))
        self.assertEqual(first_house(one, True), (0, 0, 1, 0))
        # Fewer people come first, also where another house is less as a tuple.
        self.assertEqual(first_house(("or", ("least", 3, "both"), ("not", ("all", "a", "b"))), True), (0, 1, 0, 0))


class CountTest(unittest.TestCase):

    def test_against_counting(self):
        formulas = SIMPLE + SHALLOW[::50] + GROWN[::8]
        for people in range(15):
            houses = houses_with(people)
            self.assertEqual(len(houses), all_with(people))
            for formula in formulas:
                right = len(where(formula, houses))
                self.assertEqual(count_houses(formula, people), right, (formula, people))

    def test_a_formula_and_its_contrary(self):
        for people in (VAST, VAST - 1):
            for formula in SIMPLE + SHALLOW[::10] + GROWN:
                if is_formula(("not", formula)):
                    both = [count_houses(one, people) for one in (formula, ("not", formula))]
                    self.assertEqual(sum(both), all_with(people), formula)
                    self.assertGreaterEqual(min(both), 0)

    def test_thirty_figures(self):
        for people in (VAST, VAST - 1, 15, 3, 2):
            three = (people + 2) * (people + 1) // 2
            self.assertEqual(count_houses(("all", "a", "b"), people), three)
            self.assertEqual(count_houses(("all", "b", "a"), people), three)
            self.assertEqual(count_houses(("no", "b", "a"), people), three)
            self.assertEqual(count_houses(SOME, people), all_with(people) - three)
            self.assertEqual(count_houses(("just", 2, "both"), people), people * (people - 1) // 2)
            self.assertEqual(count_houses(("least", 2, "both"), people), all_with(people - 2))
            self.assertEqual(count_houses(("just", 2, "b"), people), 3 * (people - 1))

    def test_always_and_never(self):
        for people in (0, 1, 5, VAST):
            self.assertEqual(count_houses(("if", A[0], A[0]), people), all_with(people))
            self.assertEqual(count_houses(("other", A[0], A[0]), people), 0)

    def test_few_people(self):
        self.assertEqual([count_houses(("least", 3, "a"), people) for people in (0, 1, 2)], [0, 0, 0])
        self.assertEqual(count_houses(("least", 3, "a"), 3), 4)
        self.assertEqual([count_houses(A[0], 0), count_houses(SOME, 0), count_houses(SOME, 1)], [1, 0, 1])

    def test_kinds(self):
        for people in (0, 7, VAST):
            self.assertIs(type(count_houses(A[0], people)), int)


class ErrorsTest(ErrorsCase):

    def test_holds(self):
        self.takes_nothing_wrong(holds, (A[0], (0, 0, 0, 0)),
                                 [(InvalidFormula, WRONG_FORMULAS), (InvalidHouse, WRONG_HOUSES)])

    def test_how(self):
        self.takes_nothing_wrong(how, (A[0],), [(InvalidFormula, WRONG_FORMULAS)])

    def test_first_house(self):
        for truth in (True, False):
            self.takes_nothing_wrong(first_house, (A[0], truth),
                                     [(InvalidFormula, WRONG_FORMULAS), (InvalidTruth, WRONG_TRUTHS)])

    def test_count_houses(self):
        for people in (0, VAST):
            self.takes_nothing_wrong(count_houses, (A[0], people),
                                     [(InvalidFormula, WRONG_FORMULAS), (InvalidNumber, WRONG_NUMBERS)])

    def test_ten_and_eleven_deep(self):
        calls = [(holds, (0, 1, 0, 0)), (how,), (first_house, True), (first_house, False), (count_houses, 1)]
        # With nine "not" it says that there is somebody who has a alone.
        self.assertEqual([call[0](deep(10), *call[1:]) for call in calls],
                         [True, "sometimes", (0, 1, 0, 0), (0, 0, 0, 0), 1])
        for call in calls:
            self.raises(InvalidFormula, call[0], deep(11), *call[1:])
            self.raises(InvalidFormula, call[0], ("and", deep(10), A[0]), *call[1:])

    def test_readings_that_are_deeper(self):
        formula = readings(("not",) * 15 + A)[0]
        self.raises(InvalidFormula, how, formula)
        self.raises(InvalidFormula, holds, formula, (0, 0, 0, 0))


class SameAnswersTest(unittest.TestCase):

    def test_twice(self):
        for formula in GROWN[:10]:
            for call in ((holds, (0, 1, 2, 3)), (how,), (first_house, True), (first_house, False), (count_houses, 9)):
                self.assertEqual(call[0](formula, *call[1:]), call[0](formula, *call[1:]))

    def test_kinds(self):
        for formula in SIMPLE + GROWN[:10]:
            self.assertIs(type(holds(formula, (1, 1, 1, 1))), bool)
            self.assertIs(type(how(formula)), str)
            for truth in (True, False):
                house = first_house(formula, truth)
                self.assertTrue(house is None or is_house(house))

    def test_plain_reckoning_by_hand(self):
        self.assertEqual([plainly.people_with((1, 2, 3, 4), *marks) for marks in ("", "a", "b", "ab")], [10, 6, 7, 4])
        self.assertEqual(list(HOUSES[:6]),
                         [(0, 0, 0, 0), (0, 0, 0, 1), (0, 0, 1, 0), (0, 1, 0, 0), (1, 0, 0, 0), (0, 0, 0, 2)])
        for formula in GROWN[::8]:
            self.assertEqual(where(formula), [house for house in HOUSES if plainly_holds(formula, house)])


if __name__ == "__main__":
    unittest.main()
