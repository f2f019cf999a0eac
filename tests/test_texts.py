"""Tests of promises 5 and 16, and of 2 as far as it speaks of these: notices as texts."""

import itertools
import unittest

from noticeways import texts
from noticeways.errors import InvalidNotice, InvalidText
from noticeways.notices import is_notice
from noticeways.texts import notice_text, read_notice
from tests.reckoning import A, B, C, D, FEW_MORE, JUST_300, TWO_MORE, VERY_MANY, grown_notices, short_notices
from tests.wrong import WRONG_NOTICES, WRONG_TEXTS, ErrorsCase

# All 24 words that are signs, each written out.
WORDS = (
    "and or unless onlyif not ( ) "
    "all-a-b all-b-a some-a-b some-b-a no-a-b no-b-a allnot-a-b allnot-b-a "
    "has-1-a has-2-a has-3-a has-1-b has-2-b has-3-b has-1-both has-2-both has-3-both"
).split()
CLAUSES = WORDS[7:]

NO_SIGNS = [
    "", "AND", "And", "NOT", "All-a-b", "all-A-b", "ALL-A-B", "has-4-a", "has-0-a", "has--a", "has-01-a", "has-+1-a",
    "has--1-a", "has-1-c", "has-1-ab", "has-1-", "has-1", "has", "has-1-a-", "-has-1-a", "has-1-a-b", "has-a-1",
    "has-1.0-a", "has-True-a", "has-one-a", "all-a-a", "all-b-b", "all-a", "all-a-", "all--a-b", "all-a-b-a",
    "all-a-both", "all-a-b\n", "\nall-a-b", "all-a\n-b", "all_a_b", "all", "allnot-a-a", "all-not-a-b",
    "none-a-b", "least-1-a", "just-1-a", "if", "other", "only", "((", "()", "(all-a-b)", "not(", "-", "--", "\n",
    "and\n", "\nand", "all-a-b,", "'and'", "andor", "an", "nott", "some-a-b~", "x" * 2000, "0", "1",
]


class DocumentTest(unittest.TestCase):

    def test_example(self):
        found = [notice_text(B), notice_text(("(",) + C + (")",)), read_notice("has-2-both unless no-a-b"),
                 read_notice(notice_text(D)) == D]
        self.assertEqual(found, ["not some-a-b and has-1-a", "( allnot-a-b )",
                                 (("has", 2, "both"), "unless", ("no", "a", "b")), True])

    def test_defined_in_the_file(self):
        for name in ("notice_text", "read_notice"):
            self.assertEqual(getattr(texts, name).__module__, "noticeways.texts")


class TextTest(unittest.TestCase):

    def same(self, notice, text):
        self.assertEqual(notice_text(notice), text)
        found = read_notice(text)
        self.assertEqual(found, notice)
        self.assertTrue(is_notice(found))

    def test_clauses(self):
        for word in CLAUSES:
            first, *others = word.split("-")
            self.same(((first,) + tuple(int(one) if one in "123" else one for one in others),), word)

    def test_words(self):
        self.same(("not", "not") + A, "not not all-a-b")
        self.same(A + ("and",) + C + ("or",) + A + ("unless",) + C,
                  "all-a-b and allnot-a-b or all-a-b unless allnot-a-b")
        self.same(("(", "not", "(", ("has", 3, "a"), ")", ")", "onlyif", ("some", "b", "a")),
                  "( not ( has-3-a ) ) onlyif some-b-a")

    def test_counts_are_integers(self):
        found = read_notice("has-2-a")
        self.assertEqual([type(one) for one in found[0]], [str, int, str])
        self.assertEqual([type(found), type(found[0]), type(notice_text(found))], [tuple, tuple, str])

    def test_all_short_notices(self):
        for notice in short_notices((C[0], ("has", 2, "both"), "and", "unless", "not", "(", ")"), 5):
            self.back(notice)

    def test_grown_notices(self):
        for notice in grown_notices(500, 16):
            self.back(notice)

    def back(self, notice):
        text = notice_text(notice)
        self.assertEqual(text.count(" "), len(notice) - 1)
        self.assertEqual(text.replace("-", " ").split(" "), [str(one) for sign in notice for one in
                                                             ([sign] if isinstance(sign, str) else sign)])
        self.assertEqual(read_notice(text), notice)

    def test_unlike_notices_have_unlike_texts(self):
        notices = sorted(set(grown_notices(500, 16)), key=repr)
        self.assertEqual(len({notice_text(one) for one in notices}), len(notices))

    def test_all_readings_are_not_asked_for(self):
        for notice in (FEW_MORE, TWO_MORE, VERY_MANY, JUST_300, ("not",) * 15 + A):
            self.back(notice)

    def test_sixteen_signs(self):
        self.same(("not",) * 15 + A, "not " * 15 + "all-a-b")
        self.same(("(",) * 7 + ("not",) + A + (")",) * 7, "( " * 7 + "not all-a-b" + " )" * 7)


class WrongTextTest(ErrorsCase):

    def wrong(self, value, word):
        self.assertEqual(self.raises(InvalidText, read_notice, value).word, word, value)

    def test_no_strings(self):
        for value in WRONG_TEXTS:
            self.wrong(value, 0)

    def test_no_sign_alone(self):
        for word in NO_SIGNS:
            self.assertNotIn(word, WORDS)
            self.wrong(word, 1)

    def test_no_sign_in_each_place(self):
        for word in NO_SIGNS:
            row = ["not", "all-a-b", "and", "(", "some-a-b", ")"]
            for at in range(len(row) + 1):
                self.wrong(" ".join(row[:at] + [word] + row[at:]), at + 1)

    def test_the_first_one(self):
        self.wrong("all-a-b AND all-a-a", 2)
        self.wrong("and and And", 3)
        self.wrong("not x y z", 2)
        self.wrong("has-4-a has-5-a", 1)

    def test_spaces(self):
        self.wrong("", 1)
        self.wrong(" ", 1)
        self.wrong("  ", 1)
        self.wrong(" all-a-b", 1)
        self.wrong("all-a-b ", 2)
        self.wrong("not  all-a-b", 2)
        self.wrong("not all-a-b  ", 3)
        self.wrong("all-a-b and  all-a-b", 3)
        self.wrong(" " * 2000, 1)

    def test_other_blanks(self):
        self.wrong("not\nall-a-b", 1)
        self.wrong("not \nall-a-b", 2)
        self.wrong("not all-a-b\n", 2)
        self.wrong("not \n all-a-b", 2)
        self.wrong("all-a-b\n\n", 1)

    def test_rows_that_are_no_notice(self):
        for many in (1, 2, 3):
            for words in itertools.product(("all-a-b", "has-1-both", "and", "not", "(", ")"), repeat=many):
                signs = tuple({"all-a-b": A[0], "has-1-both": ("has", 1, "both")}.get(word, word) for word in words)
                if is_notice(signs):
                    self.assertEqual(read_notice(" ".join(words)), signs)
                else:
                    self.wrong(" ".join(words), many + 1)
        self.wrong("all-a-b all-a-b", 3)
        self.wrong("( all-a-b", 3)
        self.wrong(") all-a-b (", 4)
        self.wrong("not and all-a-b or", 5)

    def test_seventeen_signs_and_more(self):
        self.wrong("not " * 16 + "all-a-b", 18)
        self.wrong("not " * 300 + "all-a-b", 302)
        self.wrong("( " * 8 + "all-a-b" + " )" * 8, 18)
        self.wrong(" ".join(["and"] * 500), 501)
        self.wrong("not " * 16 + "all-a-b x", 18)

    def test_five_clauses(self):
        self.assertEqual(len(read_notice(" or ".join(["all-a-b"] * 4))), 7)
        self.wrong(" or ".join(["all-a-b"] * 5), 10)
        self.wrong(" or ".join(["all-a-b"] * 8), 16)

    def test_words_alone(self):
        for word in WORDS[:7]:
            self.wrong(word, 2)


class ErrorsTest(ErrorsCase):

    def test_wrong_notices(self):
        self.takes_nothing_wrong(notice_text, (B,), [(InvalidNotice, WRONG_NOTICES)])

    def test_as_a_notice_a_text_is_none(self):
        for text in ("all-a-b", "not all-a-b", ""):
            self.raises(InvalidNotice, notice_text, text)


if __name__ == "__main__":
    unittest.main()
