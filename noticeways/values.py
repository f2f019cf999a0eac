"""Notices as values with operators."""

from noticeways.books import alike
from noticeways.checks import check_house, check_index, check_notice
from noticeways.comparing import harmless
from noticeways.errors import InvalidNotice
from noticeways.meanings import meanings
from noticeways.notices import is_sign
from noticeways.readings import readings
from noticeways.texts import notice_text, read_notice


class Notice:
    """A notice as a value."""

    MOST = 16

    def __init__(self, *signs):
        check_notice(signs)
        self._signs = signs

    @classmethod
    def read(cls, value):
        """The notice of a text."""
        signs = read_notice(value)
        return cls(*signs)

    @property
    def source(self):
        """The notice as a tuple."""
        return self._signs

    def like(self, other):
        """Whether the book of this notice alone and that of another one are alike."""
        _check_value(other)
        return alike((self._signs,), (other._signs,))

    def __call__(self, house):
        check_house(house)
        return tuple([meaning == 1 for meaning in meanings(readings(self._signs), [house])])

    def __and__(self, other):
        return _joined(self, "and", other)

    def __or__(self, other):
        return _joined(self, "or", other)

    def __invert__(self):
        return Notice("not", *self._signs)

    def __sub__(self, other):
        check_index(other, len(self._signs))
        signs = self._signs[:other] + self._signs[other + 1:]
        return Notice(*signs)

    def __iadd__(self, other):
        if not isinstance(other, tuple):
            raise InvalidNotice("this is no tuple of signs")
        signs = self._signs + other
        check_notice(signs)
        self._signs = signs
        return self

    def __getitem__(self, at):
        check_index(at, len(self._signs))
        return self._signs[at]

    def __contains__(self, x):
        # Python takes True for 1, which a notice does not.
        return is_sign(x) and x in self._signs

    def __len__(self):
        return len(self._signs)

    def __iter__(self):
        raise TypeError("a notice is not iterated over")

    def __bool__(self):
        return bool(harmless(self._signs))

    def __str__(self):
        return str(notice_text(self._signs))

    def __eq__(self, other):
        return isinstance(other, Notice) and self._signs == other._signs


def _joined(one, joint, other):
    _check_value(other)
    signs = one._signs + (joint,) + other._signs
    return Notice(*signs)


def _check_value(value):
    if not isinstance(value, Notice):
        raise InvalidNotice("this is no notice as a value")
