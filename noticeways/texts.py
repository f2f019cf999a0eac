"""Notices as texts."""

from noticeways.checks import check_notice
from noticeways.errors import InvalidText
from noticeways.notices import COUNT_CLAUSES, COUNTED, MARK_CLAUSES, MARKS, MOST_TOLD, OTHER_SIGNS, is_notice
from noticeways.rows import JOINTS


def notice_text(notice):
    """The text of a notice."""
    check_notice(notice)
    return " ".join([_word(sign) for sign in notice])


def read_notice(value):
    """The notice whose text a value is."""
    if not isinstance(value, str):
        raise InvalidText(0)
    signs = {_word(sign): sign for sign in _all_signs()}
    words = value.split(" ")
    for number, word in enumerate(words, start=1):
        if word not in signs:
            raise InvalidText(number)
    notice = tuple([signs[word] for word in words])
    if not is_notice(notice):
        raise InvalidText(len(words) + 1)
    return notice


def _word(sign):
    if isinstance(sign, str):
        return sign
    return "-".join([str(item) for item in sign])


def _all_signs():
    marked = [(word, first, second) for word in MARK_CLAUSES for first, second in MARKS]
    counted = [(word, many, mark) for word in COUNT_CLAUSES for many in range(1, MOST_TOLD + 1) for mark in COUNTED]
    return [*JOINTS, *OTHER_SIGNS, *marked, *counted]
