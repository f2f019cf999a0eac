"""Tests of promises 8 and 13, and of 2, 3 and 6 as far as they speak of these: how meanings stand to each other."""

import unittest

from noticeways import comparing
from noticeways.comparing import groups, harmless, parting, relation
from noticeways.errors import InvalidFormula, InvalidNotice, TooMany
from noticeways.notices import is_formula, is_house
from noticeways.readings import readings
from noticeways.truths import holds
from tests.plainly import HOUSES, SIMPLE, found_in_all, full, grown_formulas
from tests.reckoning import A, B, C, D, FEW_MORE, JUST_300, TWO_MORE, VERY_MANY, grown_notices
from tests.wrong import WRONG_FORMULAS, WRONG_NOTICES, ErrorsCase, deep

WORDS = ("same", "within", "around", "apart", "crossing")
SOME, NONE = ("some", "a", "b"), ("no", "a", "b")
NEVER, ALWAYS = ("and", SOME, NONE), ("or", SOME, NONE)
GROWN = grown_formulas(40, 3, 5) + grown_formulas(20, 5, 6)
# 14 readings, each of which says that A does not hold, or nothing that can be.
MANY_NOTS = ("not",) * 13 + A + ("and",) + A


class DocumentTest(unittest.TestCase):

    def test_relation(self):
        found = [relation(("some", "a", "b"), ("some", "b", "a")), relation(("just", 1, "a"), ("least", 1, "a")),
                 relation(("least", 1, "a"), ("just", 1, "a")), relation(("some", "a", "b"), ("no", "a", "b")),
                 relation(A[0], ("all", "b", "a"))]
        self.assertEqual(found, ["same", "within", "around", "apart", "crossing"])

    def test_the_others(self):
        found = [relation(readings(D)[0], readings(D)[1]), parting(readings(D)[0], readings(D)[1]),
                 parting(A[0], A[0]), groups(D), groups(A), harmless(D), harmless(A + ("and",) + A + ("and",) + A),
                 groups((("has", 1, "both"), "or", ("some", "a", "b")))]
        self.assertEqual(found, ["within", (0, 0, 1, 1), None, [(0,), (1,)], [(0,)], False, True, [(0, 1)]])

    def test_defined_in_the_file(self):
        for name in ("relation", "parting", "groups", "harmless"):
            self.assertEqual(getattr(comparing, name).__module__, "noticeways.comparing")


class SearchTest(unittest.TestCase):

    def same(self, one, other):
        first, second = found_in_all(one), found_in_all(other)
        word = "crossing"
        if first == second:
            word = "same"
        elif first < second:
            word = "within"
        elif first > second:
            word = "around"
        elif not first & second:
            word = "apart"
        self.assertEqual(relation(one, other), word, (one, other))
        apart = first ^ second
        house = parting(one, other)
        self.assertEqual(house, next((one for one in HOUSES if one in apart), None), (one, other))
        self.assertEqual(house is None, word == "same")
        if house is not None:
            self.assertNotEqual(holds(one, house), holds(other, house))
        return word

    def test_simple_ones(self):
        words = [self.same(one, other) for one in SIMPLE for other in SIMPLE]
        self.assertEqual(sorted(set(words)), sorted(WORDS))

    def test_grown_ones(self):
        words = [self.same(one, other) for one in GROWN for other in GROWN[::3]]
        words.extend(self.same(one, other) for one in SIMPLE[::2] for other in GROWN[::2])
        self.assertEqual(sorted(set(words)), sorted(WORDS))

    def test_large_ones(self):
        rows = [full(word, 10) for word in ("and", "or", "if", "other")] + [deep(10), deep(9)]
        for one in rows:
            for other in rows:
                self.same(one, other)

    def test_what_holds_in_no_house(self):
        never = [NEVER, ("other", A[0], A[0]), ("and", ("just", 1, "b"), ("just", 2, "b")), ("not", ALWAYS)]
        for one in never:
            for other in never:
                self.assertEqual(self.same(one, other), "same")
            for other in SIMPLE + [ALWAYS]:
                self.assertEqual(self.same(one, other), "within")
                self.assertEqual(self.same(other, one), "around")

    def test_what_holds_in_all_houses(self):
        self.assertEqual(self.same(ALWAYS, ("if", A[0], A[0])), "same")
        for other in SIMPLE:
            self.assertEqual([self.same(ALWAYS, other), self.same(other, ALWAYS)], ["around", "within"])

    def test_the_first_word_that_is_so(self):
        self.assertEqual(relation(("least", 2, "both"), ("least", 1, "a")), "within")
        self.assertEqual(relation(("least", 1, "a"), ("least", 2, "both")), "around")
        self.assertEqual(relation(("just", 1, "a"), ("just", 2, "a")), "apart")
        self.assertEqual(relation(("just", 1, "a"), ("just", 2, "b")), "crossing")
        self.assertEqual(relation(NEVER, NEVER), "same")

    def test_parting_is_the_first_house(self):
        self.assertEqual(parting(("least", 3, "a"), ("just", 3, "a")), (0, 0, 0, 4))
        self.assertEqual(parting(("no", "a", "b"), ("all", "a", "b")), (0, 0, 0, 1))
        self.assertEqual(parting(("all", "b", "a"), ("all", "a", "b")), (0, 0, 1, 0))
        one = ("and", ("no", "a", "b"), ("and", ("least", 3, "a"), ("least", 3, "b")))
        self.assertEqual(parting(one, ("and", one, ("just", 3, "a"))), (0, 4, 3, 0))
        self.assertEqual(parting(one, ("and", one, ("and", ("just", 3, "a"), ("just", 3, "b")))), (0, 3, 4, 0))


class GroupsTest(unittest.TestCase):

    def same(self, notice):
        formulas = readings(notice)
        found = {}
        for number, formula in enumerate(formulas):
            found.setdefault(found_in_all(formula), []).append(number)
        right = sorted(tuple(sorted(group)) for group in found.values())
        self.assertEqual(groups(notice), right, notice)
        self.assertIs(harmless(notice), len(right) == 1, notice)
        self.assertEqual(sorted(sum(right, ())), list(range(len(formulas))))
        return len(right)

    def test_ordinary_ones(self):
        self.assertEqual(groups(B), [(0,), (1,), (2,), (3,)])
        self.assertEqual(groups(C), [(0,), (1,)])
        for notice in (A, B, C, D, ("not",) + D, C + ("unless",) + C, (("has", 2, "a"), "onlyif", "not") + C):
            self.same(notice)

    def test_groups_that_are_mixed(self):
        notice = A + ("unless",) + A + ("or",) + A
        self.assertEqual(groups(notice), [(0, 1, 2), (3,)])
        self.same(notice)
        self.assertEqual([len(readings(MANY_NOTS)), self.same(MANY_NOTS)], [14, 2])
        self.assertEqual(groups(("not",) * 3 + A + ("and", SOME)), [(0, 2), (1, 3)])
        self.same(("not",) * 3 + A + ("and", SOME))

    def test_all_the_same(self):
        for notice in (A, ("not",) * 12 + A, A + ("and",) + A + ("or",) + A + ("or",) + A,
                       (SOME, "or", ("some", "b", "a"), "and", SOME), ("(",) + A + (")",)):
            self.assertIs(harmless(notice), True)
            self.assertEqual(groups(notice), [tuple(range(len(readings(notice))))])

    def test_just_300(self):
        self.assertEqual(len(readings(JUST_300)), 300)
        self.assertGreater(self.same(JUST_300), 2)

    def test_sixteen_deep(self):
        self.assertEqual([groups(("not",) * 15 + one) for one in (A, C)], [[(0,)], [(0,), (1,)]])
        self.assertEqual([harmless(("not",) * 15 + one) for one in (A, C)], [True, False])

    def test_grown_notices(self):
        tried, fair = 0, 0
        for notice in grown_notices(250, 12):
            try:
                many = len(readings(notice))
            except TooMany:
                continue
            if 1 < many <= 60:
                tried = tried + 1
                fair = fair + (self.same(notice) == 1)
        self.assertGreater(tried, 60)
        self.assertTrue(0 < fair < tried)


class ErrorsTest(ErrorsCase):

    def test_wrong_formulas(self):
        wrong = (InvalidFormula, WRONG_FORMULAS)
        for function in (relation, parting):
            self.takes_nothing_wrong(function, (A[0], SOME), [wrong, wrong])

    def test_wrong_notices(self):
        for function in (groups, harmless):
            self.takes_nothing_wrong(function, (A,), [(InvalidNotice, WRONG_NOTICES)])

    def test_too_many(self):
        for notice in (FEW_MORE, TWO_MORE, VERY_MANY):
            for function in (groups, harmless):
                self.raises_too_many(300, function, notice)
        # All of them are the same, but they are asked for all the same.
        self.raises_too_many(300, harmless, ("not",) * 9 + A + ("and",) + A + ("and",) + A + ("and",) + A)

    def test_ten_and_eleven_deep(self):
        for function, found in ((relation, "same"), (parting, None)):
            self.assertEqual(function(deep(10), deep(10)), found)
            self.raises(InvalidFormula, function, deep(10), deep(11))
            self.raises(InvalidFormula, function, deep(11), deep(10))
        self.assertEqual([relation(deep(10), deep(9)), parting(deep(10), deep(9))], ["apart", (0, 0, 0, 0)])


class SameAnswersTest(unittest.TestCase):

    def test_new_lists(self):
        for notice in (A, D, JUST_300):
            first = groups(notice)
            kept = list(first)
            first.append("spoilt")
            self.assertEqual(groups(notice), kept)

    def test_kinds(self):
        for notice in (A, B, C, D):
            self.assertIs(type(groups(notice)), list)
            self.assertTrue(all(type(group) is tuple for group in groups(notice)))
            self.assertIs(type(harmless(notice)), bool)
        for one in GROWN:
            self.assertTrue(is_formula(one))
            house = parting(one, A[0])
            self.assertTrue(house is None or is_house(house))


if __name__ == "__main__":
    unittest.main()
