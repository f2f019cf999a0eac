"""Tests of promises 7 and 11, and of 2 and 3 as far as they speak of these: all readings of a notice."""

import unittest

from noticeways import readings as module
from noticeways.errors import InvalidFormula, InvalidNotice, TooMany
from noticeways.notices import is_formula
from noticeways.readings import is_reading, readings
from tests import reckoning
from tests.reckoning import A, B, C, D, FEW_MORE, JUST_300, TWO_MORE, VERY_MANY
from tests.wrong import WRONG_FORMULAS, WRONG_NOTICES, ErrorsCase

SIGNS = (("allnot", "a", "b"), ("all", "b", "a"), "and", "unless", "onlyif", "not", "(", ")")


class DocumentTest(unittest.TestCase):

    def test_readings_of_allnot(self):
        self.assertEqual(readings(C), [("no", "a", "b"), ("not", ("all", "a", "b"))])

    def test_readings_of_two_joints(self):
        self.assertEqual(readings(D), [
            ("and", ("or", ("some", "a", "b"), ("all", "a", "b")), ("all", "b", "a")),
            ("or", ("some", "a", "b"), ("and", ("all", "a", "b"), ("all", "b", "a"))),
        ])

    def test_other_examples(self):
        found = [len(readings(B)), readings(B)[1], readings(B)[2], is_reading(A, A[0]), is_reading(A, ("no", "a", "b")),
                 len(readings((("has", 1, "both"), "unless", ("has", 1, "a")))),
                 readings(("(",) + D[:3] + (")",) + D[3:]) == readings(D)[:1]]
        self.assertEqual(found, [4, ("and", ("not", ("some", "a", "b")), ("least", 1, "a")),
                                 ("not", ("and", ("some", "a", "b"), ("just", 1, "a"))), True, False, 8, True])

    def test_defined_in_the_file(self):
        self.assertEqual([readings.__module__, is_reading.__module__], ["noticeways.readings"] * 2)
        self.assertIs(module.readings, readings)


class RulesTest(unittest.TestCase):

    def test_clauses_alone(self):
        for word in ("all", "some", "no"):
            for marks in (("a", "b"), ("b", "a")):
                self.assertEqual(readings(((word,) + marks,)), [(word,) + marks])
        self.assertEqual(readings((("allnot", "b", "a"),)), [("no", "b", "a"), ("not", ("all", "b", "a"))])
        for many in (1, 2, 3):
            for mark in ("a", "b", "both"):
                self.assertEqual(readings((("has", many, mark),)), [("just", many, mark), ("least", many, mark)])

    def test_each_joint(self):
        one, other = ("all", "a", "b"), ("no", "b", "a")
        self.assertEqual(readings((one, "and", other)), [("and", one, other)])
        self.assertEqual(readings((one, "or", other)), [("or", one, other)])
        self.assertEqual(readings((one, "onlyif", other)), [("if", one, other)])
        self.assertEqual(readings((one, "unless", other)), [("or", one, other), ("other", one, other)])

    def test_what_not_reaches_over(self):
        one, other = ("all", "a", "b"), ("no", "b", "a")
        self.assertEqual(readings(("not", one)), [("not", one)])
        self.assertEqual(readings(("not", "not", one)), [("not", ("not", one))])
        self.assertEqual(readings(("not", one, "or", other)), [("not", ("or", one, other)), ("or", ("not", one), other)])
        self.assertEqual(readings((one, "or", "not", other)), [("or", one, ("not", other))])
        self.assertEqual(readings(("not", "not", one, "and", other)), [
            ("and", ("not", ("not", one)), other),
            ("not", ("and", ("not", one), other)),
            ("not", ("not", ("and", one, other))),
        ])

    def test_brackets(self):
        one, other = ("all", "a", "b"), ("no", "b", "a")
        for notice in (A, B, C, D, ("not",) + C):
            self.assertEqual(readings(("(",) + notice + (")",)), readings(notice))
            self.assertEqual(readings(("(", "(") + notice + (")", ")")), readings(notice))
        self.assertEqual(readings(("(", one, ")", "or", "(", other, ")")), [("or", one, other)])
        self.assertEqual(readings(("not", "(", one, "or", other, ")")), [("not", ("or", one, other))])
        self.assertEqual(readings(("(", "not", one, ")", "or", other)), [("or", ("not", one), other)])
        self.assertEqual(readings(("(", one, "or", other, ")", "and", "(", other, "or", one, ")")),
                         [("and", ("or", one, other), ("or", other, one))])
        self.assertEqual(readings((one, "or", "(", other, "and", one, ")")), [("or", one, ("and", other, one))])

    def test_numbers_of_ways(self):
        row = A
        for many in (1, 2, 5):
            row = row + ("and",) + A
            self.assertEqual(len(readings(row)), many)
        self.assertEqual(len(readings(C + ("unless",) + C + ("unless",) + C)), 2 * 4 * 8)

    def test_deeper_than_a_formula(self):
        notice = ("not",) * 15 + A
        found = readings(notice)
        self.assertEqual(len(found), 1)
        value, depth = found[0], 1
        while value[0] == "not":
            value, depth = value[1], depth + 1
        self.assertEqual((value, depth), (A[0], 16))
        self.assertEqual(len(readings(("not",) * 15 + C)), 2)


class ReckoningTest(unittest.TestCase):

    def same(self, notice):
        found = readings(notice)
        self.assertEqual(found, reckoning.plain_readings(notice), notice)
        self.assertTrue(all(one < other for one, other in zip(found, found[1:])), notice)

    def test_all_short_notices(self):
        tried = reckoning.short_notices(SIGNS, 6)
        self.assertGreater(len(tried), 500)
        for notice in tried:
            self.same(notice)

    def test_grown_notices(self):
        many = 0
        for notice in reckoning.grown_notices(400, 11):
            try:
                self.same(notice)
            except TooMany:
                many = many + 1
                self.assertGreater(len(reckoning.plain_readings(notice)), 300)
        self.assertLess(many, 40)

    def test_is_reading_of_all_short_notices(self):
        tried = reckoning.short_notices((C[0], A[0], "unless", "not", "(", ")"), 5)
        formulas = {one for notice in tried for one in reckoning.plain_readings(notice)}
        formulas = sorted(formulas | {("not", one) for one in sorted(formulas)[:50]})
        for notice in tried:
            right = reckoning.plain_readings(notice)
            found = [one for one in formulas if is_reading(notice, one)]
            self.assertEqual(found, [one for one in right if one in formulas], notice)
            self.assertEqual(found, right, notice)


class LimitTest(unittest.TestCase):

    def test_just_300(self):
        found = readings(JUST_300)
        self.assertEqual(len(found), 300)
        self.assertEqual(found, reckoning.plain_readings(JUST_300))

    def test_a_few_more(self):
        self.assertEqual(len(reckoning.plain_readings(FEW_MORE)), 304)
        with self.assertRaises(TooMany) as caught:
            readings(FEW_MORE)
        self.assertEqual(caught.exception.limit, 300)

    def test_two_more(self):
        self.assertEqual(len(reckoning.plain_readings(TWO_MORE)), 302)
        with self.assertRaises(TooMany) as caught:
            readings(TWO_MORE)
        self.assertEqual(caught.exception.limit, 300)

    def test_very_many(self):
        for notice in (VERY_MANY, ("not",) * 9 + C + ("and",) + C + ("unless",) + C + ("or",) + C):
            self.assertEqual(len(notice), 16)
            with self.assertRaises(TooMany) as caught:
                readings(notice)
            self.assertEqual(caught.exception.limit, 300)

    def test_is_reading_of_more(self):
        for one in reckoning.plain_readings(FEW_MORE):
            self.assertIs(is_reading(FEW_MORE, one), True)
        self.assertIs(is_reading(FEW_MORE, A[0]), False)
        self.assertIs(is_reading(FEW_MORE, ("not", A[0])), False)

    def test_is_reading_of_very_many(self):
        leaf = ("least", 2, "both")
        two = ("other", ("other", leaf, ("just", 2, "both")), ("or", leaf, leaf))
        formula = two
        for _ in range(7):
            formula = ("not", formula)
        self.assertTrue(is_formula(formula))
        self.assertIs(is_reading(VERY_MANY, formula), False)
        notice = VERY_MANY[2:]
        self.assertIs(is_reading(notice, formula), True)
        self.assertIs(is_reading(notice, formula[1]), False)
        self.assertIs(is_reading(VERY_MANY, leaf), False)


class IsReadingTest(unittest.TestCase):

    def test_each_reading(self):
        for notice in (A, B, C, D, JUST_300, ("(",) + B + (")",), ("not", "(") + D + (")", "unless") + C):
            for one in readings(notice):
                self.assertIs(is_reading(notice, one), True, (notice, one))

    def test_others(self):
        none = ("no", "b", "a")
        self.assertIs(is_reading(C, ("no", "b", "a")), False)
        self.assertIs(is_reading(C, ("all", "a", "b")), False)
        self.assertIs(is_reading(C, ("not", ("no", "a", "b"))), False)
        self.assertIs(is_reading(("not",) + A, A[0]), False)
        self.assertIs(is_reading(A, ("not", A[0])), False)
        self.assertIs(is_reading(A, ("not", ("not", A[0]))), False)
        self.assertIs(is_reading(A + ("and", none), ("and", none, A[0])), False)
        self.assertIs(is_reading(A + ("and", none), ("or", A[0], none)), False)
        self.assertIs(is_reading(A + ("or", none), ("other", A[0], none)), False)
        self.assertIs(is_reading(A + ("onlyif", none), ("or", A[0], none)), False)
        self.assertIs(is_reading(A + ("unless", none), ("if", A[0], none)), False)
        self.assertIs(is_reading((("has", 1, "a"),), ("least", 2, "a")), False)
        self.assertIs(is_reading((("has", 1, "a"),), ("just", 1, "b")), False)

    def test_brackets_are_kept(self):
        for notice, kept in ((("(",) + D[:3] + (")",) + D[3:], 0), (D[:2] + ("(",) + D[2:] + (")",), 1)):
            found = [is_reading(notice, one) for one in readings(D)]
            self.assertEqual(found, [at == kept for at in range(2)])

    def test_ten_and_eleven_deep(self):
        notice = ("not",) * 9 + A
        formula = readings(notice)[0]
        self.assertIs(is_reading(notice, formula), True)
        with self.assertRaises(InvalidFormula):
            is_reading(("not",) + notice, ("not", formula))


class ErrorsTest(ErrorsCase):

    def test_wrong_notices(self):
        for wrong in WRONG_NOTICES:
            with self.subTest(wrong=wrong):
                self.raises(InvalidNotice, readings, wrong)
                self.raises(InvalidNotice, is_reading, wrong, A[0])

    def test_wrong_formulas(self):
        for wrong in WRONG_FORMULAS:
            with self.subTest(wrong=wrong):
                self.raises(InvalidFormula, is_reading, A, wrong)

    def test_order(self):
        for notice in WRONG_NOTICES:
            for formula in WRONG_FORMULAS:
                self.raises(InvalidNotice, is_reading, notice, formula)
        for formula in WRONG_FORMULAS:
            self.raises(InvalidFormula, is_reading, VERY_MANY, formula)
        self.raises(InvalidNotice, readings, ("not",) + VERY_MANY)


class SameAnswersTest(unittest.TestCase):

    def test_twice(self):
        for notice in (A, B, C, D, JUST_300):
            first = readings(notice)
            kept = list(first)
            first.reverse()
            first.append("spoilt")
            second = readings(notice)
            self.assertEqual(second, kept)
            self.assertIsNot(second, first)
            self.assertIsNot(readings(notice), second)

    def test_kinds(self):
        for notice in (A, B, C, D):
            self.assertIs(type(readings(notice)), list)
            for one in readings(notice):
                self.assertTrue(is_formula(one))

    def test_after_an_error(self):
        first = readings(D)
        for wrong in (VERY_MANY, None, A + A):
            with self.assertRaises(ValueError):
                readings(wrong)
        self.assertEqual(readings(D), first)
        for one in (first[0], A[0]):
            self.assertIs(is_reading(D, one), is_reading(D, one))

    def test_too_many_twice(self):
        for _ in range(2):
            with self.assertRaises(TooMany):
                readings(FEW_MORE)


if __name__ == "__main__":
    unittest.main()
