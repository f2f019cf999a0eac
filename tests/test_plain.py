"""Tests of promise 19, and of 2, 3, 4 and 6 as far as they speak of it: plain tables of formulas."""

import itertools
import random
import unittest

from noticeways import plain
from noticeways.comparing import parting
from noticeways.errors import InvalidFormula
from noticeways.notices import is_house
from noticeways.plain import reach, table
from noticeways.readings import readings
from noticeways.truths import holds, how
from tests.plainly import SIMPLE, found_in, full, grown_formulas, plainly_holds
from tests.reckoning import A, JUST_300
from tests.wrong import WRONG_FORMULAS, ErrorsCase, deep

VAST = 10 ** 30
SOME, NONE = ("some", "a", "b"), ("no", "a", "b")
NEVER, ALWAYS = ("and", SOME, NONE), ("or", SOME, NONE)
# All houses with up to five people of each sort, in ascending order.
HOUSES = tuple(itertools.product(range(6), repeat=4))
LARGE = [full(word, 10) for word in ("and", "or", "if", "other")] + [deep(10), deep(9)]


def plain_reach(formula):
    """For each sort the least number that may stand for all greater ones, by trying each number in each house."""
    found = found_in(formula, HOUSES)
    most = []
    for sort in range(4):
        for number in range(6):
            if all((house in found) == (house[:sort] + (min(house[sort], number),) + house[sort + 1:] in found)
                   for house in HOUSES):
                most.append(number)
                break
    return tuple(most)


def plain_table(formula, most):
    """The ascending list of all houses within a reach in which a formula holds, one by one."""
    houses = itertools.product(*[range(many + 1) for many in most])
    return [house for house in houses if plainly_holds(formula, house)]


class DocumentTest(unittest.TestCase):

    def test_example(self):
        found = [reach(("just", 2, "a")), table(("just", 2, "a")), reach(A[0]), table(A[0]),
                 reach(("or", A[0], ("not", A[0]))), table(("and", ("some", "a", "b"), ("no", "a", "b")))]
        self.assertEqual(found, [(0, 3, 0, 3), [(0, 0, 0, 2), (0, 1, 0, 1), (0, 2, 0, 0)], (0, 1, 0, 0),
                                 [(0, 0, 0, 0)], (0, 0, 0, 0), []])

    def test_defined_in_the_file(self):
        for name in ("reach", "table"):
            self.assertEqual(getattr(plain, name).__module__, "noticeways.plain")


class SearchTest(unittest.TestCase):

    def same(self, formula):
        most = plain_reach(formula)
        self.assertEqual(reach(formula), most, formula)
        self.assertEqual(table(formula), plain_table(formula, most), formula)
        return most

    def test_simple_ones(self):
        for formula in SIMPLE:
            self.same(formula)
            self.same(("not", formula))
        self.assertEqual([reach(("least", many, "b")) for many in (1, 2, 3)], [(0, 0, k, k) for k in (1, 2, 3)])
        self.assertEqual([reach(("just", many, "both")) for many in (1, 2, 3)], [(0, 0, 0, k) for k in (2, 3, 4)])

    def test_grown_ones(self):
        found = [self.same(formula) for formula in grown_formulas(60, 4, 24) + grown_formulas(20, 8, 25)]
        self.assertGreater(len(set(found)), 15)

    def test_large_ones(self):
        for formula in LARGE:
            self.same(formula)

    def test_always_and_never(self):
        least = ("least", 1, "a")
        for formula in (ALWAYS, ("if", A[0], A[0]), ("not", NEVER), ("or", least, ("not", least))):
            self.assertEqual(how(formula), "always")
            self.assertEqual([reach(formula), table(formula)], [(0, 0, 0, 0), [(0, 0, 0, 0)]])
        for formula in (NEVER, ("other", A[0], A[0]), ("and", ("just", 1, "a"), ("just", 2, "a"))):
            self.assertEqual(how(formula), "never")
            self.assertEqual([reach(formula), table(formula)], [(0, 0, 0, 0), []])

    def test_each_sort_by_itself(self):
        # Whether there are three or four with both marks matters only if nobody else has a.
        one = ("and", ("just", 3, "a"), ("just", 3, "both"))
        self.assertEqual(self.same(one), (0, 1, 0, 4))
        self.assertEqual(self.same(("and", ("just", 3, "a"), ("just", 1, "b"))), (0, 4, 2, 2))
        self.assertEqual(self.same(("and", NONE, ("just", 3, "b"))), (0, 0, 4, 1))

    def test_ascending(self):
        # As houses, those with fewer people are first; as tuples it is otherwise.
        found = table(("least", 2, "a"))
        self.assertEqual(found, sorted(found))
        self.assertEqual(found[:3], [(0, 0, 0, 2), (0, 1, 0, 1), (0, 1, 0, 2)])
        self.assertEqual(table(("some", "a", "b")), [(0, 0, 0, 1)])
        found = table(("or", ("just", 3, "both"), ("just", 1, "a")))
        self.assertEqual(found[:3], [(0, 0, 0, 1), (0, 0, 0, 3), (0, 1, 0, 0)])


class GuaranteeTest(unittest.TestCase):

    def test_where_a_formula_holds(self):
        dice = random.Random(26)
        for formula in SIMPLE + grown_formulas(60, 5, 27) + LARGE:
            most, held = reach(formula), table(formula)
            for _ in range(40):
                house = tuple(dice.choice((0, 1, 2, 3, 4, 5, 9, VAST - 1, VAST)) for _ in range(4))
                within = tuple(min(many, limit) for many, limit in zip(house, most))
                self.assertIs(within in held, plainly_holds(formula, house), (formula, house))
                self.assertIs(within in held, holds(formula, house))

    def test_formulas_that_hold_in_the_same_houses(self):
        formulas = grown_formulas(60, 3, 28) + SIMPLE + [NEVER, ALWAYS, ("not", ("not", SOME)), ("not", NONE)]
        same = 0
        for one, other in itertools.combinations(formulas, 2):
            alike = (reach(one), table(one)) == (reach(other), table(other))
            self.assertEqual(alike, parting(one, other) is None, (one, other))
            same = same + alike
        self.assertGreater(same, 20)

    def test_readings_of_a_notice(self):
        formulas = readings(JUST_300)[::25]
        for one, other in itertools.combinations(formulas, 2):
            alike = (reach(one), table(one)) == (reach(other), table(other))
            self.assertEqual(alike, parting(one, other) is None)


class ErrorsTest(ErrorsCase):

    def test_wrong_formulas(self):
        for function in (reach, table):
            self.takes_nothing_wrong(function, (SOME,), [(InvalidFormula, WRONG_FORMULAS)])
            function(deep(10))
            self.raises(InvalidFormula, function, deep(11))


class SameAnswersTest(unittest.TestCase):

    def test_new_lists(self):
        first = table(SOME)
        first.append("spoilt")
        self.assertEqual(table(SOME), [(0, 0, 0, 1)])

    def test_kinds(self):
        for formula in (SOME, NEVER, ALWAYS, LARGE[0]):
            self.assertEqual([type(reach(formula)), type(table(formula))], [tuple, list])
            self.assertTrue(is_house(reach(formula)))
            self.assertTrue(all(is_house(house) for house in table(formula)))


if __name__ == "__main__":
    unittest.main()
