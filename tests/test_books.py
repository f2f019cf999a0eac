"""Tests of promises 8 and 18, and of 2 and 3 as far as they speak of these: books of notices."""

import itertools
import random
import unittest

from noticeways import books
from noticeways.books import alike, clash, count_meanings, is_book, only_in, silent
from noticeways.errors import InvalidBook, TooMany
from noticeways.readings import readings
from tests.deciding import unlike_left
from tests.plainly import HOUSES
from tests.reckoning import A, B, C, D, FEW_MORE, JUST_300, TWO_MORE, VERY_MANY, grown_notices
from tests.wrong import WRONG_BOOKS, ErrorsCase

S, N = (("some", "a", "b"),), (("no", "a", "b"),)
NEVER, ALWAYS = S + ("and",) + N, S + ("or",) + N
# Three notices with just 2000 meanings, and three with 2001.
JUST_2000 = (
    ("(", "not", ("allnot", "a", "b"), "unless", ("has", 3, "a"), ")", "onlyif", ("has", 1, "both")),
    ("not", ("allnot", "b", "a"), "and", ("allnot", "a", "b"), "onlyif", ("has", 2, "b"), "and", ("has", 3, "a")),
    ("not", ("has", 2, "both"), "unless", ("has", 2, "both")),
)
ONE_MORE = (
    ("not", ("allnot", "a", "b"), "unless", "(", ("has", 3, "b"), "or", ("no", "a", "b"), ")", "onlyif",
     ("has", 2, "a")),
    (("has", 1, "a"), "or", "not", ("has", 2, "b"), "and", ("has", 1, "a"), "onlyif", ("allnot", "b", "a")),
    (("some", "b", "a"), "unless", ("all", "a", "b"), "onlyif", "not", ("allnot", "a", "b")),
)
# Two notices that have 3751 meanings together.
LARGE, LARGER = JUST_2000[1], (
    ("allnot", "a", "b"), "unless", "not", ("has", 1, "a"), "and", ("allnot", "b", "a"), "or", ("has", 1, "b"))
ONE_BOOK = (count_meanings, clash, silent)
TWO_BOOKS = (alike, only_in)


def plain_meanings(book):
    """The set of the sets of houses that come of one reading of each notice, each time all ways."""
    rows = [unlike_left(notice, ()) for notice in book]
    return {frozenset(HOUSES).intersection(*chosen) for chosen in itertools.product(*rows)}


def plain_clash(book):
    empty = [not found for found in plain_meanings(book)]
    return "always" if all(empty) else "sometimes" if any(empty) else "never"


def plain_silent(book):
    found = []
    for at, notice in enumerate(book):
        others = plain_meanings(book[:at] + book[at + 1:])
        if all(one & other == other for one in unlike_left(notice, ()) for other in others):
            found.append(at)
    return found


def some_books(many, seed):
    """Books of one, two and three grown notices that have not too many readings."""
    dice = random.Random(seed)
    pool = [A, B, C, D, S, N, NEVER, ALWAYS]
    for notice in grown_notices(300, 9):
        try:
            if len(readings(notice)) <= 20:
                pool.append(notice)
        except TooMany:
            continue
    return [tuple(dice.choice(pool[:dice.choice((8, 400))]) for _ in range(at % 3 + 1)) for at in range(many)]


class DocumentTest(unittest.TestCase):

    def test_example(self):
        found = [count_meanings((C,)), count_meanings((A, C)), clash((A, C)), clash((A,)), clash((S, N)),
                 silent((A, A)), silent((A, C)), silent(((("has", 1, "both"),), S)), alike((A,), (A, A)),
                 alike((C,), (C, C)), only_in((C, C), (C,)), only_in((C,), (C, C)), is_book(())]
        self.assertEqual(found, [2, 2, "sometimes", "never", "always", [0, 1], [], [1], True, False, 1, 0, False])

    def test_defined_in_the_file(self):
        for function in ONE_BOOK + TWO_BOOKS + (is_book,):
            self.assertEqual(function.__module__, "noticeways.books")
            self.assertIs(getattr(books, function.__name__), function)


class IsBookTest(unittest.TestCase):

    def test_books(self):
        for book in ((A,), (A, B), (A, B, C), (A, A, A), (VERY_MANY,), (FEW_MORE, TWO_MORE, JUST_300)):
            self.assertIs(is_book(book), True)

    def test_others(self):
        for value in WRONG_BOOKS:
            self.assertIs(is_book(value), False, value)


class OrdinaryTest(unittest.TestCase):

    def test_count_meanings(self):
        self.assertEqual([count_meanings((one,)) for one in (A, B, C, D, NEVER, ALWAYS, ("not",) * 15 + C)],
                         [1, 4, 2, 2, 1, 1, 2])
        # The third meaning is that both readings of C hold.
        self.assertEqual([count_meanings((C,) * many) for many in (1, 2, 3)], [2, 3, 3])
        self.assertEqual(count_meanings((A, A, A)), 1)
        self.assertEqual(count_meanings((NEVER, JUST_300, B)), 1)

    def test_readings_that_are_the_same_count_as_one(self):
        notice = A + ("unless",) + A + ("or",) + A
        self.assertEqual([len(readings(notice)), count_meanings((notice,))], [4, 2])

    def test_clash(self):
        for book, word in (((NEVER,), "always"), ((A, ("not",) + A), "always"), ((A, B, NEVER), "always"),
                           ((ALWAYS,), "never"), ((A, C, ALWAYS), "sometimes"), ((C, ("not",) + C), "sometimes"),
                           ((A, N, S), "always"), ((A, S), "never"), ((A, B), "sometimes")):
            self.assertEqual(clash(book), word, book)
            self.assertEqual(plain_clash(book), word, book)

    def test_silent_alone(self):
        for notice in (ALWAYS, A + ("or", "not") + A, ("not", "(") + NEVER + (")",)):
            self.assertEqual(silent((notice,)), [0])
        for notice in (A, B, C, D, NEVER):
            self.assertEqual(silent((notice,)), [])
        self.assertEqual(silent((ALWAYS, ALWAYS, ALWAYS)), [0, 1, 2])

    def test_silent_beside_others(self):
        self.assertEqual(silent((A, A, A)), [0, 1, 2])
        self.assertEqual(silent((A, ALWAYS)), [1])
        self.assertEqual(silent((NEVER, A)), [1])
        self.assertEqual(silent((A, NEVER, C)), [0, 2])
        # Twice the same notice says something if it can be read in two ways.
        self.assertEqual(silent((C, C)), [])
        self.assertEqual(silent((S, (("has", 1, "a"),))), [])
        self.assertEqual(silent(((("has", 2, "both"),), S, A)), [1])
        # Only both of the others together leave nothing to say.
        self.assertEqual(silent((A, S, (("all", "a", "b"), "and", ("some", "a", "b")))), [0, 1, 2])
        self.assertEqual(silent((A, S, (("some", "a", "b"), "or", ("all", "b", "a")))), [2])

    def test_alike_and_only_in(self):
        found = [alike((S,), (("not",) + N,)), alike((S, N), (NEVER,)), alike((S,), (N,))]
        self.assertEqual(found, [True, True, False])
        self.assertEqual([alike((B, C), (C, B)), alike((C, C), (C, C, C)), alike((A, ALWAYS), (A,))], [True] * 3)
        self.assertEqual([only_in((C,), (A,)), only_in((A,), (C,)), only_in((C, C), (NEVER,))], [2, 1, 3])
        self.assertEqual([only_in((D,), (A,)), only_in((B,), (B,))], [2, 0])


class ReckoningTest(unittest.TestCase):

    def test_one_book(self):
        words, quiet = [], []
        for book in some_books(300, 21):
            found = plain_meanings(book)
            self.assertEqual(count_meanings(book), len(found), book)
            word = plain_clash(book)
            self.assertEqual(clash(book), word, book)
            words.append(word)
            right = plain_silent(book)
            self.assertEqual(silent(book), right, book)
            quiet.append(len(right))
        self.assertGreater(min(words.count(word) for word in ("always", "never", "sometimes")), 20)
        self.assertGreater(min(quiet.count(many) for many in (0, 1, 2)), 10)

    def test_two_books(self):
        found = []
        tried = some_books(120, 22)
        for one, other in [*zip(tried, tried[1:]), *zip(tried, tried[::-1]), *((book, book) for book in tried[:20])]:
            first, second = plain_meanings(one), plain_meanings(other)
            self.assertIs(alike(one, other), first == second, (one, other))
            self.assertEqual(only_in(one, other), len(first - second), (one, other))
            self.assertEqual(alike(one, other), only_in(one, other) == 0 == only_in(other, one))
            found.append(first == second)
        self.assertGreater(min(found.count(True), found.count(False)), 20)

    def test_order_of_notices(self):
        for book in some_books(60, 23):
            for other in itertools.permutations(book):
                self.assertTrue(alike(book, other))
                self.assertEqual(clash(book), clash(other))
                self.assertEqual({book[at] for at in silent(book)}, {other[at] for at in silent(other)})


class LimitTest(ErrorsCase):

    def test_just_2000(self):
        self.assertEqual([len(plain_meanings(book)) for book in (JUST_2000, ONE_MORE)], [2000, 2001])
        self.assertEqual(count_meanings(JUST_2000), 2000)
        self.assertEqual(clash(JUST_2000), plain_clash(JUST_2000))
        self.assertEqual(silent(JUST_2000), [])
        self.assertIs(alike(JUST_2000, JUST_2000), True)
        self.assertEqual(only_in(JUST_2000, (NEVER,)), 1999)

    def too_many(self, book):
        for function in ONE_BOOK:
            self.raises_too_many(2000, function, book)
        for function in TWO_BOOKS:
            self.raises_too_many(2000, function, book, (A,))
            self.raises_too_many(2000, function, (A,), book)

    def test_one_more(self):
        self.too_many(ONE_MORE)

    def test_far_more_by_the_first_notices(self):
        self.assertEqual(len(plain_meanings((LARGE, LARGER))), 3751)
        self.assertEqual(len(plain_meanings((LARGE, LARGER, NEVER))), 1)
        for book in ((LARGE, LARGER), (LARGER, LARGE), (LARGE, LARGER, NEVER), (LARGE, LARGER, A)):
            self.too_many(book)

    def test_without_one_of_its_notices(self):
        for book in ((LARGE, NEVER, LARGER), (NEVER, LARGE, LARGER)):
            self.assertEqual([count_meanings(book), clash(book), alike(book, (NEVER,)), only_in(book, (NEVER,))],
                             [1, "always", True, 0])
            self.raises_too_many(2000, silent, book)
        self.assertEqual(silent((LARGE, NEVER)), [0])


class ErrorsTest(ErrorsCase):

    def test_wrong_books(self):
        wrong = (InvalidBook, WRONG_BOOKS)
        for function in ONE_BOOK:
            self.takes_nothing_wrong(function, ((A,),), [wrong])
        for function in TWO_BOOKS:
            self.takes_nothing_wrong(function, ((A, B), (C,)), [wrong, wrong])

    def test_more_than_300_readings(self):
        for notice in (FEW_MORE, TWO_MORE, VERY_MANY):
            for book in ((notice,), (A, notice), (notice, A, A), (NEVER, A, notice)):
                for function in ONE_BOOK:
                    self.raises_too_many(300, function, book)
                for function in TWO_BOOKS:
                    self.raises_too_many(300, function, book, (A,))
                    self.raises_too_many(300, function, (A,), book)
                    self.raises(InvalidBook, function, book, ())
                    self.raises(InvalidBook, function, (A, None), book)

    def test_2000_comes_behind_300(self):
        for function in ONE_BOOK:
            self.raises_too_many(300, function, (LARGE, LARGER, FEW_MORE))
        for function in TWO_BOOKS:
            self.raises_too_many(300, function, (LARGE, LARGER), (FEW_MORE,))
            self.raises_too_many(300, function, (LARGE, FEW_MORE), (LARGE, LARGER))
            self.raises(InvalidBook, function, (LARGE, LARGER), (FEW_MORE, ()))


class SameAnswersTest(unittest.TestCase):

    def test_new_lists(self):
        first = silent((A, A))
        first.append("spoilt")
        self.assertEqual(silent((A, A)), [0, 1])

    def test_kinds(self):
        self.assertEqual([type(silent((A,))), type(count_meanings((A,))), type(alike((A,), (B,))),
                          type(only_in((A,), (B,)))], [list, int, bool, int])


if __name__ == "__main__":
    unittest.main()
