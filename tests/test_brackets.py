"""Tests of promises 5, 8 and 17, and of 2 and 3 as far as they speak of these: the fewest brackets."""

import random
import unittest

from noticeways import brackets
from noticeways.brackets import least_brackets
from noticeways.comparing import harmless
from noticeways.errors import InvalidNotice, TooMany
from noticeways.notices import is_notice
from noticeways.readings import readings
from noticeways.texts import notice_text
from tests.plainly import found_in_all
from tests.reckoning import A, B, C, D, FEW_MORE, JUST_300, VERY_MANY, grown_notices, is_plain_row
from tests.wrong import WRONG_NOTICES, ErrorsCase

SOME, BACK, HAS = ("some", "a", "b"), ("all", "b", "a"), ("has", 2, "a")


def plainly_harmless(notice):
    return len({found_in_all(formula) for formula in readings(notice)}) == 1


def with_a_pair(rows):
    """All rows with one more pair of brackets, an opening one anywhere, a shutting one anywhere behind it."""
    found = set()
    for row in rows:
        for opening in range(len(row) + 1):
            opened = row[:opening] + ("(",) + row[opening:]
            for shutting in range(opening + 1, len(opened) + 1):
                found.add(opened[:shutting] + (")",) + opened[shutting:])
    return found


def plain_brackets(notice):
    """The pair of how many pairs of brackets are needed, at most three, and of the notices that come of them."""
    rows = {notice}
    for pairs in range(3):
        found = [row for row in rows if len(row) <= 16 and is_plain_row(row) and plainly_harmless(row)]
        if found:
            return pairs, sorted(found, key=notice_text)
        # What is no notice yet may still become one.
        rows = with_a_pair(rows)
    return 3, []


def small(notice):
    return len(notice) <= 9 and sum(isinstance(sign, tuple) for sign in notice) <= 3


class DocumentTest(unittest.TestCase):

    def test_texts(self):
        self.assertEqual([notice_text(one) for one in least_brackets(D)],
                         ["( some-a-b or all-a-b ) and all-b-a", "some-a-b or ( all-a-b and all-b-a )"])

    def test_others(self):
        found = [least_brackets(A) == [A], least_brackets(C), len(least_brackets(("not",) + D[:3])), least_brackets(B)]
        self.assertEqual(found, [True, [], 2, []])

    def test_defined_in_the_file(self):
        self.assertEqual(brackets.least_brackets.__module__, "noticeways.brackets")


class HarmlessTest(unittest.TestCase):

    def test_none_needed(self):
        for notice in (A, ("not",) * 8 + A, A + ("and",) + A + ("or",) + A, ("(",) + A + (")",),
                       (SOME, "or", ("some", "b", "a"), "and", SOME), ("not", "(", SOME, "or", BACK, ")"),
                       ("(", SOME, "or", A[0], ")", "and", BACK),
                       ("(", "(", "(", "not") + A + (")", ")", ")")):
            self.assertEqual(least_brackets(notice), [notice])

    def test_what_comes_of_brackets(self):
        for notice in least_brackets(D):
            self.assertEqual(least_brackets(notice), [notice])

    def test_several_readings_that_are_the_same(self):
        notice = (("has", 1, "both"), "or", SOME)
        self.assertEqual(len(readings(notice)), 2)
        self.assertEqual(least_brackets(notice), [notice])


class PairsTest(unittest.TestCase):

    def test_one_pair(self):
        self.assertEqual([notice_text(one) for one in least_brackets(("not",) + D[:3])],
                         ["( not some-a-b ) or all-a-b", "not ( some-a-b or all-a-b )"])
        self.assertEqual([notice_text(one) for one in least_brackets(("not", SOME, "or", A[0], "or", BACK))],
                         ["( not some-a-b ) or all-a-b or all-b-a", "not ( some-a-b or all-a-b or all-b-a )"])

    def test_two_pairs(self):
        notice = ("not", SOME, "or", A[0], "and", BACK)
        found = [notice_text(one) for one in least_brackets(notice)]
        self.assertEqual(found, [
            "( ( not some-a-b ) or all-a-b ) and all-b-a", "( not ( some-a-b or all-a-b ) ) and all-b-a",
            "( not some-a-b ) or ( all-a-b and all-b-a )", "not ( ( some-a-b or all-a-b ) and all-b-a )",
            "not ( some-a-b or ( all-a-b and all-b-a ) )",
        ])

    def test_two_pairs_are_not_enough(self):
        for notice in (C, B, ("not",) * 3 + C, (HAS,), C + ("unless",) + A, (HAS, "and", SOME, "or", BACK),
                       (SOME, "unless", BACK), ("(", SOME, "unless", BACK, ")", "and", A[0])):
            self.assertEqual(least_brackets(notice), [])

    def test_brackets_around_what_is_bracketed(self):
        notice = ("(", SOME, "or", A[0], "and", BACK, ")")
        self.assertEqual([notice_text(one) for one in least_brackets(notice)],
                         ["( ( some-a-b or all-a-b ) and all-b-a )", "( some-a-b or ( all-a-b and all-b-a ) )"])
        notice = ("(", SOME, ")", "or", "(", A[0], ")")
        self.assertEqual(least_brackets(notice), [notice])
        notice = ("(", SOME, ")", "or", A[0], "and", BACK)
        self.assertEqual([notice_text(one) for one in least_brackets(notice)],
                         ["( ( some-a-b ) or all-a-b ) and all-b-a", "( some-a-b ) or ( all-a-b and all-b-a )"])

    def test_each_once(self):
        notice = ("not", "(", SOME, ")", "and", A[0])
        found = least_brackets(notice)
        self.assertEqual([notice_text(one) for one in found],
                         ["( not ( some-a-b ) ) and all-a-b", "not ( ( some-a-b ) and all-a-b )"])
        for notice in (D, ("not",) + D):
            texts = [notice_text(one) for one in least_brackets(notice)]
            self.assertEqual(texts, sorted(set(texts)))

    def test_as_few_as_can_be(self):
        # Two pairs part both "and" as well, but one is enough: the order of these does no harm.
        notice = ("not", SOME, "and", A[0], "and", BACK)
        self.assertEqual([notice_text(one) for one in least_brackets(notice)],
                         ["( not some-a-b ) and all-a-b and all-b-a", "not ( some-a-b and all-a-b and all-b-a )"])


class SearchTest(unittest.TestCase):

    def same(self, notice):
        pairs, right = plain_brackets(notice)
        found = least_brackets(notice)
        self.assertEqual(found, right, notice)
        self.assertTrue(all(is_notice(one) and harmless(one) for one in found))
        return pairs

    def test_grown_notices(self):
        tried = [self.same(notice) for notice in grown_notices(900, 9) if small(notice)]
        self.assertGreater(min(tried.count(pairs) for pairs in (0, 1, 3)), 20)

    def test_rows_of_three_clauses(self):
        dice = random.Random(20)
        tried = [self.same(row) for row in [self.grown(dice) for _ in range(200)] if small(row)]
        self.assertGreater(min(tried.count(pairs) for pairs in (0, 1, 2)), 10)

    def grown(self, dice):
        """A row of three clauses that can be read in one way each, with "not" and brackets among them."""
        row = ()
        for nots, clause in zip(((0, 1, 1, 2), (0, 0, 0, 1), (0, 0, 0, 1)),
                                dice.sample([SOME, A[0], BACK, ("no", "b", "a")], 3)):
            part = ("not",) * dice.choice(nots) + (clause,)
            if dice.random() < 0.15:
                part = ("(",) + part + (")",)
            row = row + part + (dice.choice(("and", "or", "onlyif")),)
        return row[:-1]

    def test_nine_signs(self):
        for notice in (("not", "not", SOME, "and", "not", A[0], "or", "not", BACK),
                       ("not", "not", "not", "not", SOME, "onlyif", A[0], "or", BACK),
                       ("not", "(", SOME, "or", A[0], ")", "and", "not", BACK),
                       ("(", "(", SOME, "or", A[0], ")", ")", "and", BACK)):
            self.assertEqual(len(notice), 9)
            self.same(notice)


class ErrorsTest(ErrorsCase):

    def test_wrong_notices(self):
        self.takes_nothing_wrong(least_brackets, (D,), [(InvalidNotice, WRONG_NOTICES)])

    def test_four_clauses(self):
        for notice in (D + ("or",) + A, A + ("or",) + A + ("or",) + A + ("or",) + A):
            self.raises_too_many(3, least_brackets, notice)

    def test_ten_signs(self):
        self.assertEqual(least_brackets(("not",) * 8 + A), [("not",) * 8 + A])
        for many in (9, 10, 15):
            self.raises_too_many(9, least_brackets, ("not",) * many + A)
        self.raises_too_many(9, least_brackets, ("(", "not", "not", SOME, "or", "not", A[0], "and", BACK, ")"))

    def test_both_limits(self):
        notice = ("not",) * 3 + D + ("or",) + A
        self.assertEqual((len(notice), len(readings(notice)) <= 300), (10, True))
        self.raises_too_many(3, least_brackets, notice)
        self.raises_too_many(3, least_brackets, JUST_300)
        self.raises_too_many(3, least_brackets, ("(", "(") + A + ("or",) + A + ("or",) + A + ("or",) + A + (")", ")"))

    def test_more_than_300_readings_come_first(self):
        for notice in (FEW_MORE, VERY_MANY):
            self.raises_too_many(300, least_brackets, notice)
        few_signs = (HAS, "unless", HAS, "unless", HAS, "unless", HAS)
        with self.assertRaises(TooMany):
            readings(few_signs)
        self.raises_too_many(300, least_brackets, few_signs)
        three = ("not",) * 4 + (HAS, "unless", HAS, "unless", HAS)
        self.assertEqual(len(three), 9)
        self.raises_too_many(300, least_brackets, three)
        self.raises_too_many(300, least_brackets, ("not",) + three)


class SameAnswersTest(unittest.TestCase):

    def test_new_lists(self):
        first = least_brackets(D)
        first.append("spoilt")
        self.assertEqual(len(least_brackets(D)), 2)
        first = least_brackets(C)
        first.append("spoilt")
        self.assertEqual(least_brackets(C), [])

    def test_kinds(self):
        for notice in (A, D):
            found = least_brackets(notice)
            self.assertIs(type(found), list)
            self.assertTrue(all(type(one) is tuple for one in found))


if __name__ == "__main__":
    unittest.main()
