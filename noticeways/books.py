"""Books of notices: all that they can mean together."""

from noticeways.errors import InvalidBook, TooMany
from noticeways.kept import kept_readings
from noticeways.meanings import everywhere, small_houses
from noticeways.notices import is_notice

MOST_NOTICES = 3
MOST_MEANINGS = 2000


def is_book(value):
    """Whether a value is a book."""
    if not isinstance(value, tuple) or not 1 <= len(value) <= MOST_NOTICES:
        return False
    return all([is_notice(notice) for notice in value])


def count_meanings(book):
    """How many meanings a book has."""
    _check_book(book)
    return len(_joined(_rows(book)))


def clash(book):
    """Whether the meanings of a book hold in no house "always", "never" or "sometimes"."""
    _check_book(book)
    found = _joined(_rows(book))
    if 0 not in found:
        return "never"
    return "always" if len(found) == 1 else "sometimes"


def silent(book):
    """The ascending list of the indices of all notices of a book that say nothing beside the others."""
    _check_book(book)
    rows = _rows(book)
    # The meanings of all notices are not asked for, only whether they are too many.
    _joined(rows)
    return [at for at, row in enumerate(rows) if _adds_nothing(row, _joined(rows[:at] + rows[at + 1:]))]


def alike(one, other):
    """Whether two books have the same meanings."""
    first, second = _both_joined(one, other)
    return first == second


def only_in(one, other):
    """How many meanings the one book has that the other one has not."""
    first, second = _both_joined(one, other)
    return len([meaning for meaning in first if meaning not in second])


def _check_book(value):
    if not is_book(value):
        raise InvalidBook("this is no book")


def _both_joined(one, other):
    _check_book(one)
    _check_book(other)
    first, second = _rows(one), _rows(other)
    return (_joined(first), _joined(second))


def _rows(book):
    """For each notice of a book the list of its unlike meanings."""
    return [list(kept_readings(notice, ())) for notice in book]


def _joined(rows):
    """A dict with all meanings that come of one meaning of each row as its keys."""
    found = {everywhere(small_houses()): True}
    for row in rows:
        more = {}
        for meaning in found:
            for other in row:
                more[meaning & other] = True
            if len(more) > MOST_MEANINGS:
                raise TooMany(MOST_MEANINGS)
        found = more
    return found


def _adds_nothing(row, others):
    """Whether each meaning of a row holds wherever any of the others does."""
    whole = 0
    for meaning in others:
        whole = whole | meaning
    return all([meaning & whole == whole for meaning in row])
