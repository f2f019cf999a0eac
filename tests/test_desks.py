"""Tests of promise 21, and of 2, 9, 14 and 15 as far as they speak of it: desks."""

import itertools
import random
import unittest

from noticeways import desks
from noticeways.asking import best_house
from noticeways.desks import Desk
from noticeways.errors import (
    InvalidHouse, InvalidIndex, InvalidNotice, InvalidTruth, NoReading, NothingToUndo, NoticeError, TooMany,
)
from noticeways.readings import readings
from noticeways.values import Notice
from tests.deciding import plainly_best, plainly_left, plainly_told, unlike_left
from tests.plainly import HOUSES, plainly_holds
from tests.reckoning import A, B, C, D, FEW_MORE, JUST_300, TWO_MORE, VERY_MANY, grown_notices
from tests.wrong import WRONG_HOUSES, WRONG_INDICES, WRONG_NOTICES, WRONG_TRUTHS, ErrorsCase

METHODS = ("__init__", "notice", "decided", "left", "decide", "drop", "says", "best", "lines", "undo", "attempt",
           "__getitem__", "__contains__", "__len__", "__iter__", "__bool__", "__eq__")
EMPTY, TWO_BOTH, VAST = (0, 0, 0, 0), (0, 0, 0, 2), (10 ** 30, 10 ** 30, 10 ** 30, 10 ** 30)


class OtherError(Exception):
    """An error that the package knows nothing of."""


class HardError(BaseException):
    """An error that is not even an Exception."""


def desk_with(notice, *decided):
    desk = Desk(notice)
    for house, truth in decided:
        desk.decide(house, truth)
    return desk


def state_of(desk):
    """All that can be asked of a desk without changing it, in one value."""
    houses = (EMPTY, TWO_BOTH, (0, 1, 0, 1), (0, 1, 2, 0))
    return (desk.notice, desk.decided, desk.left, len(desk), bool(desk), desk.best(), list(desk.lines()),
            [desk.says(house) for house in houses], [house in desk for house in houses],
            [desk[at] for at in range(len(desk))])


def past_of(desk):
    """What was decided at each step back, as `undo` tells it; the desk is spoilt by this."""
    found = [desk.decided]
    for _ in range(1000):
        try:
            desk.undo()
        except NothingToUndo:
            return found
        found.append(desk.decided)
    raise AssertionError("there is no end of taking back")


class DocumentTest(unittest.TestCase):

    def test_example(self):
        t = Desk(B)
        found = [t.left, t.best(), t.decide((0, 0, 0, 0), True), t.left, t.says((0, 0, 0, 1)), t.best(),
                 t.decide((0, 0, 0, 2), False), bool(t), len(t), list(t.lines()), t.drop(0), t.left, t.undo(), t.left,
                 t.undo(), t.decided, (0, 0, 0, 2) in t]
        self.assertEqual(found, [
            (0, 1, 2, 3), (0, 0, 0, 0), 2, (2, 3), False, (0, 0, 0, 2), 1, True, 2, ["0 0 0 0 yes", "0 0 0 2 no"],
            ((0, 0, 0, 0), True), (0, 1, 3), None, (3,), None, (((0, 0, 0, 0), True),), False])

    def test_defined_in_the_class(self):
        self.assertEqual(Desk.__module__, "noticeways.desks")
        self.assertIs(desks.Desk, Desk)
        for name in METHODS:
            self.assertIn(name, vars(Desk))

    def test_most(self):
        self.assertEqual([Desk.MOST, Desk(A).MOST], [6, 6])


class MadeTest(ErrorsCase):

    def test_at_first(self):
        for notice in (A, B, C, D, JUST_300):
            desk = Desk(notice)
            self.assertEqual([desk.notice, desk.decided, len(desk), list(desk.lines())], [notice, (), 0, []])
            self.assertEqual(desk.left, tuple(range(len(readings(notice)))))
            self.assertEqual([type(desk.notice), type(desk.decided), type(desk.left)], [tuple] * 3)

    def test_no_notices(self):
        for notice in WRONG_NOTICES:
            self.raises(InvalidNotice, Desk, notice)
        for notice in (Notice(*A), Desk(A)):
            self.raises(InvalidNotice, Desk, notice)

    def test_more_than_300_readings(self):
        for notice in (FEW_MORE, TWO_MORE, VERY_MANY):
            self.raises_too_many(300, Desk, notice)

    def test_properties_are_only_read(self):
        desk = desk_with(B, (EMPTY, True))
        for name in ("notice", "decided", "left"):
            with self.assertRaises(AttributeError):
                setattr(desk, name, ())


class DecideTest(ErrorsCase):

    def test_how_many_are_left(self):
        desk = Desk(B)
        self.assertEqual([desk.decide(EMPTY, False), desk.left], [2, (0, 1)])
        self.assertEqual([desk.decide((0, 2, 0, 0), True), desk.left], [1, (1,)])
        self.assertEqual(desk.decided, ((EMPTY, False), ((0, 2, 0, 0), True)))

    def test_the_same_are_counted_once(self):
        notice = A + ("unless",) + A + ("or",) + A
        desk = Desk(notice)
        self.assertEqual([desk.decide((0, 1, 0, 0), False), desk.left], [2, (0, 1, 2, 3)])
        self.assertEqual([desk.decide(EMPTY, True), desk.left], [1, (0, 1, 2)])
        self.assertTrue(desk)

    def test_a_house_that_was_decided_before(self):
        desk = desk_with(B, (EMPTY, True))
        self.assertEqual(desk.decide(EMPTY, True), 2)
        self.assertEqual(desk.decided, ((EMPTY, True), (EMPTY, True)))
        kept = state_of(desk)
        self.raises(NoReading, desk.decide, EMPTY, False)
        self.assertEqual(state_of(desk), kept)

    def test_no_reading(self):
        for desk, house, truth in ((Desk(A), EMPTY, False), (Desk(C), (0, 1, 0, 0), False),
                                   (desk_with(B, (EMPTY, True), (TWO_BOTH, False)), (0, 0, 1, 2), True)):
            kept = state_of(desk)
            self.raises(NoReading, desk.decide, house, truth)
            self.assertEqual(state_of(desk), kept)

    def test_six_and_seven(self):
        desk = Desk(C)
        for many in range(6):
            self.assertEqual(desk.decide((many, 1, 0, 0), True), 2)
        kept = state_of(desk)
        self.assertEqual(len(desk), 6)
        for house, truth in (((6, 1, 0, 0), True), (EMPTY, True), (EMPTY, False), ((0, 1, 0, 0), True)):
            self.raises_too_many(6, desk.decide, house, truth)
            self.assertEqual(state_of(desk), kept)
        # NoReading is ahead of the limit.
        for house in ((0, 1, 0, 0), (6, 1, 2, 0), (0, 10 ** 30, 0, 0)):
            self.raises(NoReading, desk.decide, house, False)
            self.assertEqual(state_of(desk), kept)
        desk.drop(3)
        self.assertEqual(desk.decide(EMPTY, True), 1)
        self.assertEqual(len(desk), 6)

    def test_wrong_arguments(self):
        desk = desk_with(B, (EMPTY, True))
        kept = state_of(desk)
        wrong = [(InvalidHouse, WRONG_HOUSES), (InvalidTruth, WRONG_TRUTHS)]
        self.takes_nothing_wrong(desk.decide, (EMPTY, True), wrong)
        self.assertEqual(state_of(desk), kept)
        full = desk_with(A, *[((0, 0, 0, many), True) for many in range(6)])
        self.takes_nothing_wrong(full.decide, (EMPTY, True), wrong)
        for house in (Notice(*A), Desk(A), (0, 0, 0, Notice(*A))):
            with self.assertRaises(InvalidHouse):
                desk.decide(house, None)


class DropTest(ErrorsCase):

    def test_each_index(self):
        pairs = ((EMPTY, True), (TWO_BOTH, False), ((1, 0, 0, 0), True))
        for at in range(3):
            desk = desk_with(B, *pairs)
            self.assertEqual(desk.drop(at), pairs[at])
            self.assertEqual(desk.decided, pairs[:at] + pairs[at + 1:])
            self.assertEqual(desk.left, tuple(plainly_left(readings(B), desk.decided)))

    def test_until_none_is_left(self):
        desk = desk_with(B, (EMPTY, True), (TWO_BOTH, False))
        self.assertEqual([desk.drop(1), desk.drop(0), desk.left], [(TWO_BOTH, False), (EMPTY, True), (0, 1, 2, 3)])
        self.raises(InvalidIndex, desk.drop, 0)

    def test_wrong_indices(self):
        for desk in (Desk(B), desk_with(B, (EMPTY, True)), desk_with(B, (EMPTY, True), (TWO_BOTH, False))):
            kept = state_of(desk)
            for index in WRONG_INDICES + [len(desk), len(desk) + 1, 6, None]:
                self.raises(InvalidIndex, desk.drop, index)
                self.raises(InvalidIndex, desk.__getitem__, index)
            self.assertEqual(state_of(desk), kept)
            self.assertEqual(len(past_of(desk)), len(kept[1]) + 1)


class AskedTest(ErrorsCase):

    def test_says(self):
        desk = Desk(B)
        self.assertEqual([desk.says(EMPTY), desk.says((0, 1, 0, 0)), desk.says((0, 0, 0, 1))], [None, True, False])
        desk.decide(EMPTY, True)
        self.assertEqual([desk.says(EMPTY), desk.says((0, 0, 0, 1)), desk.says(TWO_BOTH)], [True, False, None])
        self.assertIs(Desk(C).says((0, 1, 0, 0)), True)

    def test_says_of_no_houses(self):
        desk = desk_with(B, (EMPTY, True))
        for house in WRONG_HOUSES:
            self.raises(InvalidHouse, desk.says, house)

    def test_best(self):
        for notice in (A, B, C, D, JUST_300):
            found = plainly_best(notice, ())
            self.assertEqual(Desk(notice).best(), found and found[1])
        desk = desk_with(B, (EMPTY, True))
        self.assertEqual(desk.best(), best_house(B, ((EMPTY, True),))[1])
        desk.decide(desk.best(), False)
        self.assertIs(desk.best(), None)

    def test_items_and_length(self):
        desk = desk_with(B, (EMPTY, True), (TWO_BOTH, False))
        self.assertEqual([desk[0], desk[1], len(desk)], [(EMPTY, True), (TWO_BOTH, False), 2])

    def test_in(self):
        desk = desk_with(B, (EMPTY, True), (TWO_BOTH, False))
        self.assertEqual([house in desk for house in (EMPTY, TWO_BOTH, (0, 0, 0, 1), VAST)], [True, True, False, False])
        for value in [None, True, 0, 1, "", (EMPTY, True), (TWO_BOTH, False), list(EMPTY), (False, 0, 0, 0), (), B,
                      desk, (0, 0, 0, False), Notice(*B), (EMPTY,), (0, 0, 0), 10 ** 39]:
            self.assertIs(value in desk, False, value)
        for house in WRONG_HOUSES:
            self.assertIs(house in desk, False)

    def test_truth(self):
        self.assertEqual([bool(Desk(notice)) for notice in (A, B, C, A + ("and",) + A + ("or",) + A)],
                         [True, False, False, True])
        self.assertTrue(Desk((("has", 1, "both"), "or", ("some", "a", "b"))))
        desk = desk_with(B, (EMPTY, True))
        self.assertFalse(desk)
        desk.decide(TWO_BOTH, True)
        self.assertTrue(desk)

    def test_lines(self):
        self.assertEqual(list(Desk(A).lines()), [])
        desk = desk_with(A, ((12, 0, 2, 3), True), (VAST, False), ((12, 0, 2, 3), True))
        self.assertEqual(list(desk.lines()), ["12 0 2 3 yes", " ".join(["1" + "0" * 30] * 4) + " no", "12 0 2 3 yes"])
        self.assertEqual(list(desk.lines()), list(desk.lines()))
        lines = desk.lines()
        self.assertIs(iter(lines), lines)
        self.assertEqual([next(lines, "no more") for _ in range(4)], [*desk.lines(), "no more"])

    def test_iteration(self):
        desk = desk_with(B, (EMPTY, True))
        for function in (iter, list, tuple, sorted, enumerate, set):
            with self.assertRaises(TypeError):
                function(desk)
        with self.assertRaises(TypeError):
            _, *_ = desk


class EqualityTest(unittest.TestCase):

    def test_equal_ones(self):
        self.assertEqual(Desk(B), Desk(B))
        self.assertIs(Desk(B) != Desk(B), False)
        one, other = desk_with(B, (EMPTY, True)), desk_with(B, (EMPTY, True))
        self.assertEqual(one, other)
        # What can be taken back makes no difference.
        other.decide(TWO_BOTH, True)
        other.drop(1)
        self.assertEqual(one, other)
        self.assertEqual([len(past_of(one)), len(past_of(other))], [2, 4])

    def test_unlike_ones(self):
        self.assertIs(Desk(A) == Desk(B), False)
        self.assertIs(Desk(A) != Desk(B), True)
        self.assertNotEqual(Desk(A), Desk(("(",) + A + (")",)))
        self.assertNotEqual(Desk(B), desk_with(B, (EMPTY, True)))
        self.assertNotEqual(desk_with(B, (EMPTY, True)), desk_with(B, (EMPTY, False)))
        pairs = ((EMPTY, True), (TWO_BOTH, False))
        self.assertNotEqual(desk_with(B, *pairs), desk_with(B, *pairs[::-1]))

    def test_others(self):
        desk = desk_with(A, (EMPTY, True))
        for value in (None, True, 1, A, desk.decided, (A, desk.decided), Notice(*A), list(A), "all-a-b", Desk):
            self.assertIs(desk == value, False, value)
            self.assertIs(value == desk, False, value)
            self.assertIs(desk != value, True, value)


class UndoTest(ErrorsCase):

    def test_behind_decide(self):
        desk = Desk(B)
        self.raises(NothingToUndo, desk.undo)
        desk.decide(EMPTY, True)
        self.assertIs(desk.undo(), None)
        self.assertEqual([desk.decided, desk.left], [(), (0, 1, 2, 3)])
        self.raises(NothingToUndo, desk.undo)

    def test_behind_drop(self):
        pairs = ((EMPTY, True), (TWO_BOTH, False))
        desk = desk_with(B, *pairs)
        desk.drop(0)
        desk.undo()
        self.assertEqual(desk.decided, pairs)
        self.assertEqual(past_of(desk), [pairs, pairs[:1], ()])

    def test_until_there_is_nothing_more(self):
        desk = desk_with(C, ((0, 1, 0, 0), True), ((1, 1, 0, 0), True))
        desk.drop(0)
        desk.decide(EMPTY, False)
        desk.drop(1)
        first, second = ((0, 1, 0, 0), True), ((1, 1, 0, 0), True)
        self.assertEqual(past_of(desk), [(second,), (second, (EMPTY, False)), (second,), (first, second), (first,), ()])
        for _ in range(3):
            self.raises(NothingToUndo, desk.undo)
            self.assertEqual(desk.decided, ())

    def test_behind_calls_that_raised_errors(self):
        desk = desk_with(A, *[((0, 0, 0, many), True) for many in range(6)])
        for error, function, arguments in (
                (NoReading, desk.decide, (EMPTY, False)), (TooMany, desk.decide, (EMPTY, True)),
                (InvalidHouse, desk.decide, (None, True)), (InvalidTruth, desk.decide, (EMPTY, 1)),
                (InvalidIndex, desk.drop, (6,))):
            self.raises(error, function, *arguments)
        self.assertEqual([len(one) for one in past_of(desk)], [6, 5, 4, 3, 2, 1, 0])

    def test_behind_calls_that_only_ask(self):
        desk = desk_with(B, (EMPTY, True))
        state_of(desk)
        desk.undo()
        self.assertEqual(desk.decided, ())

    def test_and_on_again(self):
        desk = desk_with(B, (EMPTY, True))
        desk.undo()
        desk.decide(EMPTY, False)
        desk.decide((0, 2, 0, 0), True)
        desk.undo()
        self.assertEqual(past_of(desk), [((EMPTY, False),), ()])


class AttemptTest(ErrorsCase):

    def same(self, desk, other):
        """Check that two desks are in the same state, with the same past; both are spoilt by this."""
        self.assertEqual(state_of(desk), state_of(other))
        self.assertEqual(past_of(desk), past_of(other))

    def test_what_it_returns(self):
        desk = Desk(B)
        self.assertEqual(desk.attempt(lambda one: one.decide(EMPTY, True)), 2)
        self.assertIs(desk.attempt(lambda one: one), desk)
        self.assertIs(desk.attempt(lambda one: None), None)
        self.assertEqual(desk.attempt(len), 1)
        self.assertEqual(desk.attempt(lambda one: one.drop(0)), (EMPTY, True))
        # Each call within it is taken back by itself.
        self.assertEqual(past_of(desk), [(), ((EMPTY, True),), ()])

    def test_errors(self):
        def spoil(error):
            def action(desk):
                desk.decide(TWO_BOTH, False)
                desk.drop(0)
                desk.decide((0, 0, 1, 2), False)
                raise error
            return action

        for error in (NoReading("none"), InvalidNotice("none"), TooMany(6), NoticeError("any"), ValueError("any"),
                      OtherError(), HardError(), KeyboardInterrupt(), SystemExit(), StopIteration(), KeyError(1)):
            desk = desk_with(B, (EMPTY, True))
            with self.assertRaises(BaseException) as caught:
                desk.attempt(spoil(error))
            self.assertIs(caught.exception, error)
            self.same(desk, desk_with(B, (EMPTY, True)))

    def test_errors_of_the_desk(self):
        for fault, error in ((lambda one: one.decide(EMPTY, False), NoReading), (lambda one: one.drop(2), InvalidIndex),
                             (lambda one: one.decide(None, None), InvalidHouse), (lambda one: one[9], InvalidIndex),
                             (lambda one: list(one), TypeError), (lambda one: one.attempt(), TypeError)):
            def action(one):
                one.decide(TWO_BOTH, True)
                fault(one)

            desk = desk_with(B, (EMPTY, True))
            with self.assertRaises(error):
                desk.attempt(action)
            self.same(desk, desk_with(B, (EMPTY, True)))

    def test_errors_that_the_function_catches(self):
        def action(desk):
            desk.decide(TWO_BOTH, True)
            with self.assertRaises(NoReading):
                desk.decide(EMPTY, False)
            return "done"

        desk = desk_with(B, (EMPTY, True))
        self.assertEqual(desk.attempt(action), "done")
        self.same(desk, desk_with(B, (EMPTY, True), (TWO_BOTH, True)))

    def test_undo_within_it(self):
        def back(desk):
            desk.undo()
            desk.undo()

        desk = desk_with(B, (EMPTY, True), (TWO_BOTH, True))
        desk.attempt(back)
        self.same(desk, Desk(B))

        def too_far(desk):
            for _ in range(3):
                desk.undo()

        desk = desk_with(B, (EMPTY, True), (TWO_BOTH, True))
        self.raises_in_place(NothingToUndo, desk, too_far)
        self.same(desk, desk_with(B, (EMPTY, True), (TWO_BOTH, True)))

    def test_undo_and_on_again_within_it(self):
        def action(desk):
            desk.undo()
            desk.undo()
            desk.decide(EMPTY, False)
            raise OtherError

        desk = desk_with(B, (EMPTY, True), (TWO_BOTH, True))
        with self.assertRaises(OtherError):
            desk.attempt(action)
        self.same(desk, desk_with(B, (EMPTY, True), (TWO_BOTH, True)))

    def raises_in_place(self, error, desk, action):
        with self.assertRaises(NoticeError) as caught:
            desk.attempt(action)
        self.assertIs(type(caught.exception), error)

    def test_nested_inner_error(self):
        def inner(desk):
            desk.decide((0, 0, 0, 3), True)
            desk.undo()
            desk.undo()
            raise OtherError

        def outer(desk):
            desk.decide(TWO_BOTH, True)
            with self.assertRaises(OtherError):
                desk.attempt(inner)
            return desk.decided

        desk = desk_with(B, (EMPTY, True))
        self.assertEqual(desk.attempt(outer), ((EMPTY, True), (TWO_BOTH, True)))
        self.same(desk, desk_with(B, (EMPTY, True), (TWO_BOTH, True)))

    def test_nested_outer_error(self):
        def inner(desk):
            desk.decide(TWO_BOTH, True)
            return desk.attempt(lambda one: one.drop(0))

        def outer(desk):
            self.assertEqual(desk.attempt(inner), (EMPTY, True))
            self.assertEqual(desk.decided, ((TWO_BOTH, True),))
            raise OtherError

        desk = desk_with(B, (EMPTY, True))
        with self.assertRaises(OtherError):
            desk.attempt(outer)
        self.same(desk, desk_with(B, (EMPTY, True)))

    def test_error_that_goes_through_both(self):
        def outer(desk):
            desk.decide(TWO_BOTH, True)
            desk.attempt(lambda one: one.drop(7))

        desk = desk_with(B, (EMPTY, True))
        self.raises_in_place(InvalidIndex, desk, outer)
        self.same(desk, desk_with(B, (EMPTY, True)))

    def test_a_function_that_keeps_the_desk_and_its_lines(self):
        kept = []

        def action(desk):
            kept.extend([desk, desk.lines(), desk.lines()])
            kept.append(next(kept[1]))
            desk.decide(TWO_BOTH, True)
            kept.append(list(desk.lines()))
            raise OtherError

        desk = desk_with(B, (EMPTY, True), ((1, 0, 0, 0), True))
        with self.assertRaises(OtherError):
            desk.attempt(action)
        self.assertIs(kept[0], desk)
        self.assertEqual(kept[3:], ["0 0 0 0 yes", ["0 0 0 0 yes", "1 0 0 0 yes", "0 0 0 2 yes"]])
        kept[0].drop(0)
        # The lines are those of the time when the first one is asked for.
        self.assertEqual([list(kept[1]), list(kept[2])], [["1 0 0 0 yes"], ["1 0 0 0 yes"]])
        self.assertEqual(len(past_of(desk)), 4)

    def test_lines_go_on_while_the_desk_changes(self):
        desk = desk_with(B, (EMPTY, True), (TWO_BOTH, True))
        lines = desk.lines()
        self.assertEqual(next(lines), "0 0 0 0 yes")
        desk.drop(1)
        desk.drop(0)
        self.assertEqual(list(lines), ["0 0 0 2 yes"])
        self.assertEqual(list(desk.lines()), [])

    def test_another_desk_goes_on(self):
        other = Desk(B)

        def action(desk):
            desk.decide(EMPTY, True)
            other.decide(EMPTY, False)
            raise OtherError

        desk = Desk(B)
        with self.assertRaises(OtherError):
            desk.attempt(action)
        self.assertEqual([desk.decided, other.decided], [(), ((EMPTY, False),)])


class PlainDesk:
    """A plain reckoning of a desk: a list of pairs, and copies of all former lists."""

    def __init__(self, notice):
        self.notice, self.pairs, self.past = notice, [], []

    def decide(self, house, truth):
        pairs = self.pairs + [(house, truth)]
        many = len(unlike_left(self.notice, pairs))
        if not many:
            return NoReading
        if len(pairs) > 6:
            return TooMany
        self.past.append(self.pairs)
        self.pairs = pairs
        return many

    def drop(self, index):
        if index not in range(len(self.pairs)):
            return InvalidIndex
        self.past.append(self.pairs)
        self.pairs = self.pairs[:index] + self.pairs[index + 1:]
        return self.past[-1][index]

    def undo(self):
        if not self.past:
            return NothingToUndo
        self.pairs = self.past.pop()
        return None

    def state(self):
        formulas = readings(self.notice)
        best = plainly_best(self.notice, self.pairs)
        houses = (EMPTY, TWO_BOTH, (0, 1, 0, 1), (0, 1, 2, 0))
        return (self.notice, tuple(self.pairs), tuple(plainly_left(formulas, self.pairs)), len(self.pairs),
                len(unlike_left(self.notice, self.pairs)) == 1, best and best[1],
                [" ".join(map(str, house)) + {True: " yes", False: " no"}[truth] for house, truth in self.pairs],
                [plainly_told(formulas, self.pairs, house) for house in houses],
                [house in [pair[0] for pair in self.pairs] for house in houses], self.pairs)


class LongRowsTest(unittest.TestCase):

    def test_long_rows(self):
        dice = random.Random(40)
        seen = set()
        pool = [notice for notice in grown_notices(60, 8) if 2 < len(readings(notice)) <= 30][:8]
        for notice in pool + [B, C]:
            desk, plain = Desk(notice), PlainDesk(notice)
            for at in range(60):
                names = ["decide", "undo", "undo"] if at < 8 else ["decide"] * 5 + ["drop", "undo", "attempt"]
                seen.add(self.step(dice, names, desk, plain))
                self.assertEqual(state_of(desk), plain.state())
            self.assertEqual(past_of(desk), [tuple(pairs) for pairs in [plain.pairs] + plain.past[::-1]])
        self.assertEqual(seen, {"decide", "drop", "undo", NoReading, TooMany, InvalidIndex, NothingToUndo})

    def step(self, dice, names, desk, plain):
        """One call at both desks: its name, or the class of the error that it raised at both."""
        name = dice.choice(names)
        if name == "attempt":
            return self.spoilt(dice, names, desk, plain)
        arguments = {"decide": (), "drop": (dice.randrange(5),), "undo": ()}[name]
        if name == "decide":
            house = dice.choice(HOUSES[:40])
            kept = dice.choice(readings(plain.notice))
            arguments = (house, plainly_holds(kept, house))
        right = getattr(plain, name)(*arguments)
        try:
            found = getattr(desk, name)(*arguments)
        except NoticeError as error:
            found = name = type(error)
        self.assertEqual(found, right, (name, arguments))
        return name

    def spoilt(self, dice, names, desk, plain):
        """An attempt of several calls, which are all lost in the end."""
        kept = plain.pairs, list(plain.past)

        def action(one):
            self.assertIs(one, desk)
            for _ in range(3):
                name = self.step(dice, names, desk, plain)
            raise OtherError(name)

        with self.assertRaises(OtherError) as caught:
            desk.attempt(action)
        plain.pairs, plain.past = kept
        return caught.exception.args[0]

    def test_all_short_rows(self):
        calls = [("decide", EMPTY, True), ("decide", TWO_BOTH, False), ("decide", EMPTY, False), ("drop", 0), ("undo",)]
        for row in itertools.product(calls, repeat=4):
            desk, plain = Desk(B), PlainDesk(B)
            for name, *arguments in row:
                right = getattr(plain, name)(*arguments)
                try:
                    found = getattr(desk, name)(*arguments)
                except NoticeError as error:
                    found = type(error)
                self.assertEqual(found, right, row)
                self.assertEqual(desk.decided, tuple(plain.pairs))
            self.assertEqual(len(past_of(desk)), len(plain.past) + 1)


if __name__ == "__main__":
    unittest.main()
