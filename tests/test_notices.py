"""Tests of promises 4, 5, 6 and 10: which values are notices, houses and formulas."""

import copy
import itertools
import unittest

from noticeways import notices
from noticeways.notices import is_formula, is_house, is_notice
from tests import reckoning
from tests.reckoning import A, B, C, D

WORDS = ("and", "or", "unless", "onlyif", "not", "(", ")")
CLAUSES = (("all", "a", "b"), ("some", "b", "a"), ("no", "a", "b"), ("allnot", "b", "a"), ("has", 3, "both"))


def deep_list(depth):
    value = []
    for _ in range(depth - 1):
        value = [value]
    return value


def deep_tuple(depth):
    value = ()
    for _ in range(depth - 1):
        value = (value,)
    return value


ODD = [
    None, True, False, 0, 1, 3, -1, 10 ** 39, -(10 ** 39), "", "a", "x", "not", "all", "A", "a" * 2000, "a\nb",
    [], (), [None], (None,), ["a", "b"], ("a", "b"), [0] * 4, (0,) * 100, [0] * 100, ((),), ([],),
    deep_list(12), deep_tuple(12), ("not",) * 100, (("all", "a", "b"),) * 100, (("not",) * 100,) * 100,
]
# What can stand nowhere within a notice, a house or a formula.
WRONG = [None, True, False, -1, 10 ** 39, -(10 ** 39), "", "x", "All", " a", [], (), ["a"], (0,), deep_tuple(6)]


def nested(depth, leaf=("all", "a", "b")):
    value = leaf
    for _ in range(depth - 1):
        value = ("not", value)
    return value


def changed(value, wrong):
    """All that comes of a value by putting something wrong in the place of one of its items, however deep."""
    found = []
    for at, item in enumerate(value):
        found.append(value[:at] + (wrong,) + value[at + 1:])
        if isinstance(item, tuple):
            found.extend(value[:at] + (one,) + value[at + 1:] for one in changed(item, wrong))
    return found


def listed(value):
    """All that comes of a value by putting a list in the place of one of its tuples, or of itself."""
    found = [list(value)]
    for at, item in enumerate(value):
        if isinstance(item, tuple):
            found.extend(value[:at] + (one,) + value[at + 1:] for one in listed(item))
    return found


class Checks(unittest.TestCase):

    def yes(self, test, values):
        for value in values:
            with self.subTest(value=value):
                self.assertIs(test(value), True)

    def no(self, test, values):
        for value in values:
            with self.subTest(value=value):
                self.assertIs(test(value), False)


class DocumentTest(unittest.TestCase):

    def test_example(self):
        found = [is_notice(B), is_notice(("not", "and") + A), is_notice(("(",) + A + (")",)), is_notice(A + A),
                 is_notice((("has", 4, "a"),)), is_notice((("least", 1, "a"),)), is_house((0, 0, 3, 10 ** 30)),
                 is_house((0, 0, 3)), is_formula(("not", ("just", 2, "both"))), is_formula(C[0])]
        self.assertEqual(found, [True, False, True, False, False, False, True, False, True, False])

    def test_defined_in_the_file(self):
        for name in ("is_notice", "is_house", "is_formula"):
            self.assertEqual(getattr(notices, name).__module__, "noticeways.notices")

    def test_a_truth_for_any_value(self):
        for test in (is_notice, is_house, is_formula):
            for value in ODD + [A, B, C, D, A[0], (1, 2, 3, 4), nested(10)]:
                with self.subTest(test=test.__name__, value=value):
                    kept = copy.deepcopy(value)
                    first = test(value)
                    self.assertIn(first, (True, False))
                    self.assertIs(test(value), first)
                    self.assertIs(type(first), bool)
                    self.assertEqual(value, kept)


class NoticeTest(Checks):

    def test_each_clause(self):
        pairs = itertools.product(("all", "some", "no", "allnot"), (("a", "b"), ("b", "a")))
        self.yes(is_notice, [((word,) + marks,) for word, marks in pairs])
        self.yes(is_notice, [(("has", many, mark),) for many in (1, 2, 3) for mark in ("a", "b", "both")])

    def test_ordinary_ones(self):
        self.yes(is_notice, [A, B, C, D])
        self.yes(is_notice, [A + (word,) + C for word in ("and", "or", "unless", "onlyif")])
        self.yes(is_notice, [("not",) + D, ("not", "not") + C, A + ("and", "not") + C])
        self.yes(is_notice, [("(",) + A + ("or",) + C + (")", "and") + A, ("not", "(", "not", "(") + A + (")", ")")])

    def test_numbers_of_signs(self):
        self.no(is_notice, [()])
        self.yes(is_notice, [A, ("not",) * 15 + A, ("(",) * 7 + A + (")",) * 7, ("not",) + ("(",) * 7 + A + (")",) * 7])
        self.no(is_notice, [("not",) * 16 + A, ("(",) * 8 + A + (")",) * 8, ("not",) * 99 + A])
        full = ("not",) * 9 + A + ("and",) + A + ("or",) + A + ("unless",) + A
        self.assertEqual(len(full), 16)
        self.yes(is_notice, [full])
        self.no(is_notice, [("not",) + full])

    def test_numbers_of_clauses(self):
        self.yes(is_notice, [A + (("or",) + C) * many for many in (1, 2, 3)])
        self.no(is_notice, [A + (("or",) + C) * many for many in (4, 5, 7)])

    def test_brackets(self):
        self.no(is_notice, [("(",) + A, A + (")",), ("(", "(") + A + (")",), ("(",) + A + (")", ")")])
        self.no(is_notice, [(")",) + A + ("(",), ("(", ")"), ("(", ")") + A, A + ("(", ")"), ("(",), (")",)])
        self.no(is_notice, [A + ("and", "(", ")"), ("not", "(", ")"), ("(", "not", ")"), ("(", "and", ")")])
        self.no(is_notice, [A + (")", "and", "(") + A, A + ("(",) + A + (")",), ("(",) + A + (")",) + A])
        self.no(is_notice, [("(",) + A + (")", "(") + A + (")",), ("(",) + A + ("and", ")") + A])
        self.no(is_notice, [("(",) + A + (")", "not"), ("(",) + A + (")", "not") + A])

    def test_joints_and_nots_in_wrong_places(self):
        self.no(is_notice, [("not",), A + ("not",), A + ("and", "not"), A + ("not",) + A, ("not", "not")])
        self.no(is_notice, [A + A, A + A + ("and",) + A])
        for word in ("and", "or", "unless", "onlyif"):
            self.no(is_notice, [(word,), (word,) + A, A + (word,), ("not", word) + A, A + (word, ")")])
            self.no(is_notice, [A + (word, other) + A for other in ("and", "or", "unless", "onlyif")])
            self.no(is_notice, [("(", word) + A + (")",), ("(",) + A + (word, ")")])

    def test_counts(self):
        wrong = (0, 4, -1, 10 ** 30, True, False, None, "1", [1], (1,))
        self.no(is_notice, [(("has", many, "a"),) for many in wrong])

    def test_marks(self):
        for word in ("all", "some", "no", "allnot"):
            self.no(is_notice, [((word, "a", "a"),), ((word, "b", "b"),), ((word, "a", "both"),)])
            self.no(is_notice, [((word, "both", "a"),), ((word, 1, "a"),), ((word, "a", 1),), ((word, "a", "c"),)])
        self.no(is_notice, [(("has", 1, "c"),), (("has", 1, 1),), (("has", "a", 1),), (("has", "a", "b"),)])

    def test_clauses_of_other_lengths(self):
        self.no(is_notice, [((),), (("all",),), (("all", "a"),), (("all", "a", "b", "a"),), (("has", 1),)])
        self.no(is_notice, [(("has", 1, "a", "b"),), (("not",),), (("(",),), (A,), ((A,),), (("and",),)])

    def test_words_of_formulas_and_other_words(self):
        self.no(is_notice, [(("least", 1, "a"),), (("just", 1, "a"),), (("not", A[0]),), (("and", A[0], A[0]),)])
        self.no(is_notice, [A + ("if",) + A, A + ("other",) + A, A + ("AND",) + A, A + (" and",) + A, ("Not",) + A])
        self.no(is_notice, [("all",), ("all", "a", "b"), ("all-a-b",), A + ("",), ("",) + A])

    def test_wrong_values(self):
        self.no(is_notice, ODD)
        for notice in (A, B, C, D, ("(",) + B + (")",)):
            self.no(is_notice, listed(notice))
            for wrong in WRONG + [0, 4]:
                self.no(is_notice, changed(notice, wrong))

    def test_all_short_rows(self):
        for many in range(6):
            for row in itertools.product(("and", "unless", "not", "(", ")", A[0]), repeat=many):
                clauses = row.count(A[0])
                self.assertIs(is_notice(row), clauses <= 4 and reckoning.is_plain_row(row), row)

    def test_grown_rows(self):
        for row in reckoning.grown_notices(300, 16):
            self.assertIs(is_notice(row), True, row)
            for at in range(len(row)):
                less = row[:at] + row[at + 1:]
                self.assertIs(is_notice(less), reckoning.is_plain_row(less), less)
                for sign in WORDS + CLAUSES:
                    other = row[:at] + (sign,) + row[at + 1:]
                    few = sum(isinstance(one, tuple) for one in other) <= 4
                    self.assertIs(is_notice(other), few and reckoning.is_plain_row(other), other)


class HouseTest(Checks):

    def test_ordinary_ones(self):
        self.yes(is_house, [(0, 0, 0, 0), (1, 2, 3, 4), (9, 1, 0, 1), (10 ** 30,) * 4])

    def test_each_place(self):
        for at in range(4):
            self.yes(is_house, [(5,) * at + (many,) + (5,) * (3 - at) for many in (0, 1, 10 ** 30 - 1, 10 ** 30)])
            wrong = WRONG + [10 ** 30 + 1, -(10 ** 30), "1", "a", [1], (1,)]
            self.no(is_house, [(5,) * at + (many,) + (5,) * (3 - at) for many in wrong])

    def test_numbers_of_counts(self):
        self.no(is_house, [(1,) * many for many in (0, 1, 2, 3, 5, 6, 100)])

    def test_wrong_values(self):
        self.no(is_house, [[1, 2, 3, 4], [0, 0, 0, 0], "0000", "abcd", 4, ((0, 0, 0, 0),), (True,) * 4])
        self.no(is_house, [one for one in ODD if one != (0, 0, 0, 0)])


class FormulaTest(Checks):

    def test_each_simple_one(self):
        pairs = itertools.product(("all", "some", "no"), (("a", "b"), ("b", "a")))
        self.yes(is_formula, [(word,) + marks for word, marks in pairs])
        kinds = itertools.product(("least", "just"), (1, 2, 3), ("a", "b", "both"))
        self.yes(is_formula, list(kinds))

    def test_each_other_one(self):
        one, other = ("no", "b", "a"), ("least", 3, "both")
        self.yes(is_formula, [("not", one), ("not", other), ("not", ("not", one))])
        for word in ("and", "or", "if", "other"):
            self.yes(is_formula, [(word, one, other), (word, one, one), (word, ("not", one), (word, other, one))])

    def test_depth(self):
        self.yes(is_formula, [nested(depth) for depth in range(1, 11)])
        self.no(is_formula, [nested(depth) for depth in (11, 12)])
        for word in ("and", "or", "if", "other"):
            leaf = ("just", 1, "b")
            self.yes(is_formula, [(word, nested(9), leaf), (word, leaf, nested(9)), (word, nested(9), nested(9))])
            self.no(is_formula, [(word, nested(10), leaf), (word, leaf, nested(10)), (word, nested(10), nested(10))])

    def test_deep_pairs(self):
        value = ("some", "a", "b")
        for _ in range(9):
            value = ("other", value, value)
        self.yes(is_formula, [value])
        self.no(is_formula, [("and", value, value), ("not", value), ("or", ("no", "a", "b"), value)])

    def test_too_few_or_too_many_parts(self):
        one = ("some", "a", "b")
        self.no(is_formula, [(), ("not",), ("not", one, one), ("not", "not", one), ("all",), ("all", "a")])
        self.no(is_formula, [("all", "a", "b", "a"), ("least", 1), ("just",), ("least", 1, "a", "b"), (one,)])
        for word in ("and", "or", "if", "other"):
            self.no(is_formula, [(word,), (word, one), (word, one, one, one), (one, word, one)])

    def test_counts(self):
        for word in ("least", "just"):
            self.no(is_formula, [(word, many, "a") for many in (0, 4, -1, True, False, None, "1", [1], 10 ** 30)])

    def test_marks(self):
        for word in ("all", "some", "no"):
            self.no(is_formula, [(word, "a", "a"), (word, "b", "b"), (word, "a", "both"), (word, "both", "b")])
            self.no(is_formula, [(word, 1, "a"), (word, "a", 1), (word, "c", "a"), (word, ["a"], "b")])
        for word in ("least", "just"):
            self.no(is_formula, [(word, 1, "c"), (word, 1, 1), (word, "a", 1), (word, "a", "b"), (word, 1, ["a"])])

    def test_words_of_notices_and_other_words(self):
        one = ("some", "a", "b")
        self.no(is_formula, [("allnot", "a", "b"), ("has", 1, "a"), ("unless", one, one), ("onlyif", one, one)])
        self.no(is_formula, [("AND", one, one), ("Not", one), ("(", one), ("", one), (None, one), A, B, C, D])
        self.no(is_formula, [("not", ("allnot", "a", "b")), ("and", one, ("has", 1, "a"))])

    def test_wrong_values(self):
        self.no(is_formula, ODD)
        one = ("some", "a", "b")
        whole = ("or", ("not", ("if", one, ("just", 2, "both"))), ("other", ("least", 1, "a"), ("and", one, one)))
        self.yes(is_formula, [whole])
        for value in (one, ("least", 2, "b"), ("not", one), whole):
            self.no(is_formula, listed(value))
            for wrong in WRONG + [0, 4]:
                self.no(is_formula, changed(value, wrong))


if __name__ == "__main__":
    unittest.main()
