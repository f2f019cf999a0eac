"""Tests of promise 22: the errors."""

import unittest

from noticeways import errors

MESSAGE_NAMES = [
    "InvalidNotice", "InvalidHouse", "InvalidFormula", "InvalidTruth", "InvalidCases", "InvalidPlan",
    "InvalidBook", "InvalidNumber", "InvalidIndex", "NoReading", "NothingToUndo",
]
ALL_NAMES = MESSAGE_NAMES + ["InvalidText", "TooMany"]


class ErrorsTest(unittest.TestCase):

    def test_base_class(self):
        self.assertEqual(errors.NoticeError.__bases__, (ValueError,))

    def test_subclasses_are_direct_ones(self):
        for name in ALL_NAMES:
            with self.subTest(name=name):
                self.assertEqual(getattr(errors, name).__bases__, (errors.NoticeError,))

    def test_no_other_subclass(self):
        found = sorted(one.__name__ for one in errors.NoticeError.__subclasses__())
        self.assertEqual(found, sorted(ALL_NAMES))

    def test_none_is_a_subclass_of_another_one(self):
        for one in ALL_NAMES:
            for other in ALL_NAMES:
                with self.subTest(one=one, other=other):
                    self.assertEqual(issubclass(getattr(errors, one), getattr(errors, other)), one == other)

    def test_defined_in_the_file(self):
        for name in ALL_NAMES + ["NoticeError"]:
            self.assertEqual(getattr(errors, name).__module__, "noticeways.errors")
            self.assertEqual(getattr(errors, name).__name__, name)

    def test_message(self):
        for name in MESSAGE_NAMES + ["NoticeError"]:
            with self.subTest(name=name):
                self.assertEqual(str(getattr(errors, name)("what is wrong")), "what is wrong")

    def test_word(self):
        for word in (0, 1, 17, 2000):
            self.assertEqual(errors.InvalidText(word).word, word)

    def test_limit(self):
        for limit in (3, 6, 8, 9, 300, 2000):
            self.assertEqual(errors.TooMany(limit).limit, limit)

    def test_attributes_are_set_on_each_object(self):
        one, other = errors.InvalidText(3), errors.InvalidText(4)
        self.assertEqual((vars(one), vars(other)), ({"word": 3}, {"word": 4}))
        one, other = errors.TooMany(8), errors.TooMany(9)
        self.assertEqual((vars(one), vars(other)), ({"limit": 8}, {"limit": 9}))

    def test_word_and_limit_are_told_by_str(self):
        self.assertIn("5", str(errors.InvalidText(5)))
        self.assertIn("300", str(errors.TooMany(300)))

    def test_one_argument_is_asked_for(self):
        for name in ("InvalidText", "TooMany"):
            with self.assertRaises(TypeError):
                getattr(errors, name)()
            with self.assertRaises(TypeError):
                getattr(errors, name)(1, 2)

    def test_caught_as_base_and_as_value_error(self):
        for name in ALL_NAMES:
            for base in (errors.NoticeError, ValueError, getattr(errors, name)):
                with self.subTest(name=name, base=base):
                    with self.assertRaises(base):
                        raise getattr(errors, name)(1 if name in ("InvalidText", "TooMany") else "message")

    def test_not_caught_as_another_one(self):
        for name in ALL_NAMES:
            others = tuple(getattr(errors, other) for other in ALL_NAMES if other != name)
            try:
                raise getattr(errors, name)("message")
            except others:
                self.fail(f"{name} was caught as another error")
            except errors.NoticeError:
                pass


if __name__ == "__main__":
    unittest.main()
