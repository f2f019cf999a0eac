"""Tests of promise 20, and of 2, 5, 7 and 18 as far as they speak of it: notices as values."""

import operator
import random
import unittest

from noticeways import values
from noticeways.books import alike
from noticeways.comparing import harmless
from noticeways.desks import Desk
from noticeways.errors import InvalidHouse, InvalidIndex, InvalidNotice, InvalidText, TooMany
from noticeways.notices import is_notice
from noticeways.readings import readings
from noticeways.texts import notice_text
from noticeways.values import Notice
from tests.plainly import HOUSES, plainly_holds
from tests.reckoning import A, B, C, D, FEW_MORE, JUST_300, TWO_MORE, VERY_MANY, grown_notices
from tests.wrong import WRONG_HOUSES, WRONG_INDICES, WRONG_NOTICES, WRONG_TEXTS, ErrorsCase

METHODS = ("__init__", "read", "source", "like", "__call__", "__and__", "__or__", "__invert__", "__sub__", "__iadd__",
           "__getitem__", "__contains__", "__len__", "__iter__", "__bool__", "__str__", "__eq__")
EMPTY = (0, 0, 0, 0)
FIFTEEN, SIXTEEN = ("not",) * 14 + A, ("not",) * 15 + A
TWO, FOUR = A + ("or",) + C, A + ("or",) + A + ("or",) + A + ("or",) + C


def no_values():
    """Values of other kinds than notices as values."""
    return [None, True, 0, 1, "", "all-a-b", A, list(A), A[0], "and", (), Desk(A)]


def adds(notice, signs):
    """What `notice += signs` does, as a function."""
    notice += signs
    return notice


class DocumentTest(unittest.TestCase):

    def test_example(self):
        n = Notice(*C)
        found = [n.source == C, n((0, 0, 0, 0)), (~n).source, len(n & Notice(*A)), (n | n).source[1], n[0],
                 ("allnot", "a", "b") in n, "and" in n, len(n), bool(n), bool(Notice(*A)), n.like(n | n), n.like(n),
                 str(~n), Notice.read(str(n)) == n]
        self.assertEqual(found, [True, (True, False), ("not", ("allnot", "a", "b")), 3, "or", ("allnot", "a", "b"),
                                 True, False, 1, False, True, False, True, "not allnot-a-b", True])

    def test_defined_in_the_class(self):
        self.assertEqual(Notice.__module__, "noticeways.values")
        self.assertIs(values.Notice, Notice)
        for name in METHODS:
            self.assertIn(name, vars(Notice))

    def test_most(self):
        self.assertEqual([Notice.MOST, Notice(*A).MOST], [16, 16])


class MadeTest(ErrorsCase):

    def test_source(self):
        for signs in [A, B, C, D, FEW_MORE, VERY_MANY, SIXTEEN] + grown_notices(50, 16):
            self.assertEqual(Notice(*signs).source, signs)
            self.assertIs(type(Notice(*signs).source), tuple)

    def test_source_is_only_read(self):
        n = Notice(*A)
        with self.assertRaises(AttributeError):
            n.source = B
        self.assertEqual(n.source, A)

    def test_no_notices(self):
        for signs in WRONG_NOTICES:
            if isinstance(signs, tuple):
                self.raises(InvalidNotice, Notice, *signs)
            else:
                self.raises(InvalidNotice, Notice, signs)
        self.raises(InvalidNotice, Notice)
        for value in no_values():
            if value != A[0]:
                self.raises(InvalidNotice, Notice, value)
        self.raises(InvalidNotice, Notice, Notice(*A))
        self.raises(InvalidNotice, Notice, "not", Notice(*A))

    def test_read(self):
        for signs in [A, B, C, D, VERY_MANY] + grown_notices(50, 16):
            found = Notice.read(notice_text(signs))
            self.assertIs(type(found), Notice)
            self.assertEqual(found.source, signs)
        self.assertEqual(Notice(*A).read("no-a-b").source, (("no", "a", "b"),))

    def test_read_wrong_texts(self):
        for value, word in (("", 1), ("all-a-b ", 2), ("all-a-b all-a-b", 3), ("not x", 2),
                            ("not " * 16 + "no-a-b", 18)):
            self.assertEqual(self.raises(InvalidText, Notice.read, value).word, word)
        for value in WRONG_TEXTS:
            self.assertEqual(self.raises(InvalidText, Notice.read, value).word, 0)
        # A notice as a value is no text.
        with self.assertRaises(InvalidText) as caught:
            Notice.read(Notice(*A))
        self.assertEqual(caught.exception.word, 0)


class OperatorsTest(ErrorsCase):

    def refuses(self, function, one, *others, error=InvalidNotice):
        """Check that an operator raises an error, and changes nothing."""
        kept = one.source
        with self.assertRaises(ValueError) as caught:
            function(one, *others)
        self.assertIs(type(caught.exception), error, (one.source, others))
        self.assertEqual(one.source, kept)

    def test_and_or(self):
        for first in (A, B, C, D):
            for second in (A, B, C):
                for function, word in ((operator.and_, "and"), (operator.or_, "or")):
                    one, other = Notice(*first), Notice(*second)
                    if is_notice(first + (word,) + second):
                        found = function(one, other)
                        self.assertIs(type(found), Notice)
                        self.assertEqual(found.source, first + (word,) + second)
                    else:
                        self.refuses(function, one, other)
                    self.assertEqual([one.source, other.source], [first, second])
        n = Notice(*A)
        self.assertEqual([(n & n).source, (n | n).source], [A + ("and",) + A, A + ("or",) + A])

    def test_no_brackets_are_put_in(self):
        self.assertEqual(str(Notice(*A) | Notice(*A) & Notice(*C)), "all-a-b or all-a-b and allnot-a-b")
        self.assertEqual(str((Notice(*A) | Notice(*A)) & Notice(*C)), "all-a-b or all-a-b and allnot-a-b")
        self.assertEqual(str(~(Notice(*A) | Notice(*C))), "not all-a-b or allnot-a-b")

    def test_and_or_with_other_kinds(self):
        for function in (operator.and_, operator.or_):
            for value in no_values():
                self.refuses(function, Notice(*A), value)
                # The first error is that of the argument, not of what would come of it.
                self.refuses(function, Notice(*SIXTEEN), value)

    def test_sixteen_signs(self):
        for function in (operator.and_, operator.or_):
            for many in (1, 2, 7, 13, 14):
                one, other = ("not",) * (many - 1) + A, ("not",) * (14 - many) + A
                self.assertEqual(len(function(Notice(*one), Notice(*other))), 16)
                self.refuses(function, Notice(*one), Notice("not", *other))
                self.refuses(function, Notice("not", *one), Notice(*other))
            self.refuses(function, Notice(*SIXTEEN), Notice(*SIXTEEN))

    def test_four_clauses(self):
        for function in (operator.and_, operator.or_):
            self.assertEqual(len(function(Notice(*TWO), Notice(*TWO))), 7)
            self.assertEqual(len(function(Notice(*D), Notice(*A))), 7)
            self.refuses(function, Notice(*D), Notice(*TWO))
            self.refuses(function, Notice(*FOUR), Notice(*A))
            self.refuses(function, Notice(*A), Notice(*FOUR))

    def test_not(self):
        n = Notice(*B)
        self.assertEqual([(~n).source, (~~n).source, n.source], [("not",) + B, ("not", "not") + B, B])
        self.assertIs(type(~n), Notice)
        self.assertEqual((~Notice(*FIFTEEN)).source, SIXTEEN)
        self.refuses(operator.invert, Notice(*SIXTEEN))
        self.assertEqual(len(~Notice(*FOUR)), 8)

    def test_without_a_sign(self):
        n = Notice("not", *A)
        self.assertEqual([(n - 0).source, n.source], [A, ("not",) + A])
        self.assertIs(type(n - 0), Notice)
        self.refuses(operator.sub, n, 1)
        self.assertEqual((Notice(*SIXTEEN) - 7).source, FIFTEEN)
        self.refuses(operator.sub, Notice(*A), 0)
        for at in range(3):
            self.refuses(operator.sub, Notice(*TWO), at)
        self.refuses(operator.sub, Notice("(", *A, ")"), 0)
        self.assertEqual((Notice("not", *D) - 0).source, D)

    def test_without_each_sign(self):
        for signs in [B, D, FOUR, SIXTEEN] + grown_notices(100, 16):
            for at in range(len(signs)):
                right = signs[:at] + signs[at + 1:]
                if is_notice(right):
                    self.assertEqual((Notice(*signs) - at).source, right)
                else:
                    self.refuses(operator.sub, Notice(*signs), at)

    def test_without_a_sign_by_wrong_indices(self):
        for index in WRONG_INDICES + [4, 5, 16, 10 ** 30]:
            self.refuses(operator.sub, Notice(*B), index, error=InvalidIndex)
        # The first error is that of the index, not that nothing would be left.
        for index in (True, -1, 1, None):
            self.refuses(operator.sub, Notice(*A), index, error=InvalidIndex)

    def test_more_signs(self):
        n = Notice(*A)
        n += ("or",) + C
        self.assertEqual(n.source, TWO)
        n += ()
        self.assertEqual(n.source, TWO)
        n += ("and", "not", "(") + A + (")",)
        self.assertEqual(n.source, TWO + ("and", "not", "(") + A + (")",))
        self.assertEqual(len(n), 8)

    def test_more_signs_for_all_names(self):
        n = Notice(*A)
        same, other = n, Notice(*A)
        n += ("or",) + C
        self.assertIs(n, same)
        self.assertEqual([same.source, other.source], [TWO, A])
        kept = n & n
        n += ("or",) + A
        self.assertEqual([same.source, kept.source], [TWO + ("or",) + A, TWO + ("and",) + TWO])

    def test_source_of_before_stays(self):
        n = Notice(*A)
        kept = n.source
        n += ("or",) + C
        self.assertEqual(kept, A)

    def test_more_signs_that_are_no_tuple(self):
        for signs in [["or", *A], [], None, True, 0, "", "or", "or all-a-b", Notice(*A), Desk(A)]:
            self.refuses(adds, Notice(*A), signs)
            self.refuses(adds, Notice(*SIXTEEN), signs)

    def test_more_signs_of_which_no_notice_comes(self):
        for signs in (("or",), A, ("not",), (")",), ("(",), ("or", None), (None,), ((),), ("or", list(A[0])), ("or", A),
                      ("or", "not"), ("or", ("has", True, "a")), ("or", Notice(*A)), ("or",) + A + (")",),
                      ("or",) + FOUR, ("or",) + FIFTEEN, ("x",) * 100):
            self.refuses(adds, Notice(*A), signs)
        self.assertEqual(len(adds(Notice(*A), ("or",) + ("not",) * 13 + A)), 16)
        self.assertEqual(len(adds(Notice(*TWO), ("or",) + TWO)), 7)
        self.refuses(adds, Notice(*SIXTEEN), ("or",) + A)
        self.assertEqual(adds(Notice(*SIXTEEN), ()).source, SIXTEEN)

    def test_others_with_equals_make_a_new_object(self):
        n = Notice("not", *A)
        same = n
        n &= Notice(*C)
        n -= 0
        n |= Notice(*A)
        self.assertEqual([n.source, same.source], [A + ("and",) + C + ("or",) + A, ("not",) + A])


class CallTest(ErrorsCase):

    def test_ordinary_ones(self):
        self.assertEqual([Notice(*C)(house) for house in (EMPTY, (0, 1, 0, 0), (0, 1, 0, 1), (0, 0, 0, 1))],
                         [(True, False), (True, True), (False, True), (False, False)])
        self.assertEqual(Notice(*B)(EMPTY), (False, False, True, True))
        self.assertEqual(Notice(*A)((10 ** 30, 0, 10 ** 30, 10 ** 30)), (True,))

    def test_against_plain_truths(self):
        dice = random.Random(30)
        for signs in [A, B, C, D, JUST_300] + grown_notices(60, 9):
            try:
                formulas = readings(signs)
            except TooMany:
                continue
            for house in dice.sample(HOUSES, 5):
                found = Notice(*signs)(house)
                self.assertEqual(found, tuple(plainly_holds(formula, house) for formula in formulas))
                self.assertEqual({type(one) for one in found}, {bool})

    def test_no_houses(self):
        for house in WRONG_HOUSES:
            self.raises(InvalidHouse, Notice(*B), house)
            self.raises(InvalidHouse, Notice(*VERY_MANY), house)
        for house in (Notice(*A), Desk(A)):
            with self.assertRaises(InvalidHouse):
                Notice(*A)(house)

    def test_after_more_signs(self):
        n = Notice(*C)
        n += ("or",) + A
        self.assertEqual(n(EMPTY), tuple(plainly_holds(formula, EMPTY) for formula in readings(C + ("or",) + A)))


class LikeTest(ErrorsCase):

    def test_ordinary_ones(self):
        n = Notice(*C)
        self.assertIs(n.like(n), True)
        self.assertIs(n.like(Notice(*C)), True)
        self.assertIs(n.like(Notice("not", "not", *C)), True)
        self.assertIs(n.like(Notice(*A)), False)
        self.assertIs(Notice(("some", "a", "b")).like(Notice("not", ("no", "b", "a"))), True)
        # All that n & n can mean is what n can mean, and that both readings hold.
        self.assertIs(n.like(n & n), False)

    def test_as_books(self):
        dice = random.Random(31)
        found = []
        pool = [signs for signs in grown_notices(120, 6) if len(readings(signs)) < 50]
        for _ in range(400):
            one, other = dice.choice(pool[:40]), dice.choice(pool)
            found.append(Notice(*one).like(Notice(*other)))
            self.assertIs(found[-1], alike((one,), (other,)))
        self.assertGreater(min(found.count(True), found.count(False)), 5)

    def test_with_other_kinds(self):
        for value in no_values():
            with self.assertRaises(InvalidNotice):
                Notice(*A).like(value)
            with self.assertRaises(InvalidNotice):
                Notice(*VERY_MANY).like(value)


class ItemsTest(ErrorsCase):

    def test_items(self):
        n = Notice(*B)
        self.assertEqual([n[at] for at in range(len(n))], list(B))
        self.assertEqual(Notice(*SIXTEEN)[15], A[0])

    def test_wrong_indices(self):
        for index in WRONG_INDICES + [4, 5, 16]:
            self.raises(InvalidIndex, Notice(*B).__getitem__, index)
        for index in (1, True, False):
            self.raises(InvalidIndex, Notice(*A).__getitem__, index)

    def test_in(self):
        n = Notice("not", "(", ("has", 1, "a"), "unless", ("has", 3, "both"), ")")
        for value in n.source:
            self.assertIn(value, n)
        for value in ("and", "Not", "has-1-a", "", ("has", 2, "a"), ("has", 1, "b"), ("least", 1, "a"), A[0]):
            self.assertNotIn(value, n)

    def test_in_with_other_kinds(self):
        n = Notice(("has", 1, "a"), "and", *A)
        for value in (None, True, 0, 1, (), [], ["has", 1, "a"], ("has", True, "a"), (("has", 1, "a"),), n.source,
                      n, Notice(*A), Desk(A), [A[0]], 10 ** 39, ("has", 1), ("all", ["a"], "b")):
            self.assertIs(value in n, False, value)

    def test_length(self):
        for signs in (A, B, D, FOUR, SIXTEEN):
            self.assertEqual(len(Notice(*signs)), len(signs))

    def test_truth(self):
        for signs in [A, B, C, D, JUST_300, SIXTEEN] + grown_notices(60, 7):
            self.assertIs(bool(Notice(*signs)), harmless(signs))
        n = Notice(*A)
        self.assertTrue(n)
        n += ("and",) + C
        self.assertFalse(n)

    def test_text(self):
        for signs in [A, B, C, D, VERY_MANY] + grown_notices(30, 16):
            self.assertEqual(str(Notice(*signs)), notice_text(signs))

    def test_iteration(self):
        n = Notice(*B)
        for function in (iter, list, tuple, sorted, enumerate, set):
            with self.assertRaises(TypeError):
                function(n)
        with self.assertRaises(TypeError):
            for _ in n:
                self.fail("there is nothing to go over")
        with self.assertRaises(TypeError):
            _, *_ = n


class EqualityTest(unittest.TestCase):

    def test_equal_ones(self):
        for signs in (A, B, C, D):
            self.assertEqual(Notice(*signs), Notice(*signs))
            self.assertIs(Notice(*signs) == Notice(*signs), True)
            self.assertIs(Notice(*signs) != Notice(*signs), False)

    def test_unlike_ones(self):
        self.assertIs(Notice(*A) == Notice(*B), False)
        self.assertIs(Notice(*A) != Notice(*B), True)
        # Alike, but not equal.
        self.assertNotEqual(Notice(*A), Notice("(", *A, ")"))
        self.assertNotEqual(Notice(("some", "a", "b")), Notice(("some", "b", "a")))

    def test_others(self):
        n = Notice(*A)
        for value in no_values() + [n.source, list(n.source), str(n), n[0], len(n), Notice, Desk(A)]:
            self.assertIs(n == value, False, value)
            self.assertIs(value == n, False, value)
            self.assertIs(n != value, True, value)

    def test_after_more_signs(self):
        one, other = Notice(*A), Notice(*TWO)
        self.assertNotEqual(one, other)
        one += ("or",) + C
        self.assertEqual(one, other)


class TooManyTest(ErrorsCase):

    def test_more_than_300_readings(self):
        for signs in (FEW_MORE, TWO_MORE, VERY_MANY):
            n = Notice(*signs)
            self.raises_too_many(300, bool, n)
            self.raises_too_many(300, n, EMPTY)
            self.raises_too_many(300, n.like, n)
            self.raises_too_many(300, n.like, Notice(*A))
            self.raises_too_many(300, Notice(*A).like, n)
            # All else does not ask for its readings.
            self.assertEqual([len(n), n[0], signs[0] in n, n == Notice(*signs)], [len(signs), signs[0], True, True])
            self.assertEqual(Notice.read(str(n)).source, signs)

    def test_just_300(self):
        n = Notice(*JUST_300)
        self.assertEqual(len(n(EMPTY)), 300)
        self.assertFalse(n)
        self.assertTrue(n.like(n))


if __name__ == "__main__":
    unittest.main()
