"""Values that are wrong in each place of an argument, and a test case for the errors that they raise."""

import copy
import unittest

from noticeways.errors import TooMany
from tests.reckoning import A, C


def deep(depth):
    """A formula, or a value like one, that is nested so deep."""
    value = ("all", "a", "b")
    for _ in range(depth - 1):
        value = ("not", value)
    return value


WRONG_NOTICES = [
    None, True, 0, 10 ** 39, "", "all-a-b", (), [], list(A), A + A, ("not",), ("not",) * 16 + A,
    A + ("or",) + A + ("or",) + A + ("or",) + A + ("or",) + A, (("has", 4, "a"),), (["all", "a", "b"],),
    ("all", "a", "b"), (("least", 1, "a"),), ("(",) + A, (None,), ((),),
]
WRONG_FORMULAS = [
    None, False, 1, "", "not", (), [], list(A[0]), A, C[0], ("has", 1, "a"), ("not",), ("and", A[0]),
    ("least", 0, "a"), ("least", True, "a"), ("no", "a", "a"), ("not", ["no", "a", "b"]), ("or", A[0], A[0], A[0]),
    deep(11), deep(12),
]
WRONG_HOUSES = [
    None, True, 0, "0000", (), [], (0,) * 3, (0,) * 5, [0] * 4, (0, 0, 0, True), (False, 0, 0, 0), (0, 0, -1, 0),
    (10 ** 30 + 1, 0, 0, 0), (0, 0, 0, 10 ** 39), (0, "0", 0, 0), (0, None, 0, 0), ((0, 0, 0, 0),), (0, 0, [0], 0),
]
WRONG_TRUTHS = [None, 0, 1, -1, 10 ** 39, "", "True", "yes", (), [], (True,), [False]]
WRONG_NUMBERS = [None, True, False, -1, 10 ** 30 + 1, 10 ** 39, -(10 ** 30), "", "1", (), [], (1,), [1]]

HOUSE = (0, 1, 0, 2)
WRONG_CASES = [
    None, True, 0, "", [], [(HOUSE, True)], (HOUSE, True), ((HOUSE, True),) * 7, ((HOUSE, True),) * 100,
    ([HOUSE, True],), ((HOUSE, True, True),), ((HOUSE,),), (HOUSE,), ((),), (None,), ("",), (True,), ((True, HOUSE),),
    ((HOUSE, True), (HOUSE, False), [HOUSE, True]), ((HOUSE, True), ((HOUSE, True),)),
] + [((HOUSE, truth),) for truth in WRONG_TRUTHS] + [((house, True),) for house in WRONG_HOUSES] + [
    ((HOUSE, False), (house, False)) for house in WRONG_HOUSES] + [((HOUSE, True), (HOUSE, truth)) for truth in (0, 1)]


def asked(many, plan=0):
    """A plan with so many questions one behind another, and with the same plan at all ends."""
    for at in range(many):
        plan = ("ask", (at, 0, 0, 0), plan, plan)
    return plan


# Values that are no plans, however many readings a notice has, up to 300.
WRONG_PLANS = [
    None, True, False, -1, 300, 10 ** 39, -(10 ** 39), "", "0", "ask", (), [], (0,), [0], ((0,),), ("ask",),
    ["ask", HOUSE, 0, 0], ("ask", HOUSE, 0), ("ask", HOUSE, 0, 0, 0), (HOUSE, 0, 0), (HOUSE, "ask", 0, 0),
    ("asks", HOUSE, 0, 0), ("Ask", HOUSE, 0, 0), ("", HOUSE, 0, 0), (None, HOUSE, 0, 0), (0, HOUSE, 0, 0),
    ("ask", HOUSE, True, 0), ("ask", HOUSE, 0, False), ("ask", HOUSE, -1, 0), ("ask", HOUSE, 0, 300),
    ("ask", HOUSE, None, 0), ("ask", HOUSE, 0, ()), ("ask", HOUSE, ["ask", HOUSE, 0, 0], 0),
    ("ask", HOUSE, 0, ("ask", HOUSE, 0)), ("ask", HOUSE, 0, ("ask", HOUSE, ("ask", HOUSE, 0, "0"), 0)),
    asked(8), asked(12), asked(6, ("ask", HOUSE, asked(1), 0)), asked(7, None), asked(7, True), asked(7, 300),
] + [("ask", house, 0, 0) for house in WRONG_HOUSES] + [
    ("ask", HOUSE, 0, ("ask", house, 0, 0)) for house in WRONG_HOUSES]

WRONG_BOOKS = [
    None, True, 0, 10 ** 39, "", "all-a-b", (), [], [A], A, C, (A, A, A, A), (A,) * 100, (list(A),), (A, list(A)),
    (A, A, None), (A, ()), ((),), ((A,),), (A, (A,)), (A[0],), (A, A[0]), ("not",), ("not",) + A, (A, True),
] + [(notice,) for notice in WRONG_NOTICES] + [(A, C, notice) for notice in WRONG_NOTICES[::2]]
WRONG_INDICES = [None, True, False, -1, -2, 10 ** 39, -(10 ** 39), "", "0", (), [], (0,), [0]]
WRONG_TEXTS = [None, True, False, 0, 1, 10 ** 39, (), [], ("not",), ["all-a-b"], A, C, (("all-a-b",),)]


class ErrorsCase(unittest.TestCase):

    def raises(self, error, function, *arguments):
        """Check that a call raises just this error, and leaves its arguments as they are."""
        kept = copy.deepcopy(arguments)
        with self.assertRaises(ValueError) as caught:
            function(*arguments)
        self.assertIs(type(caught.exception), error, arguments)
        self.assertEqual(arguments, kept)
        return caught.exception

    def raises_too_many(self, limit, function, *arguments):
        self.assertEqual(self.raises(TooMany, function, *arguments).limit, limit)

    def takes_nothing_wrong(self, function, right, wrong):
        """Check each mix of right and wrong arguments: the first wrong one tells the error.

        `wrong` is a pair for each place: the error, and the wrong values.
        """
        for at, (error, values) in enumerate(wrong):
            for value in values:
                arguments = list(right[:at]) + [value] + list(right[at + 1:])
                self.raises(error, function, *arguments)
                for later in range(at + 1, len(right)):
                    for other in wrong[later][1][::3]:
                        mixed = list(arguments)
                        mixed[later] = other
                        self.raises(error, function, *mixed)
