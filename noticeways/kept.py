"""Which readings of a notice go with what was decided, those that are the same put together."""

from noticeways.meanings import holds_at, meanings, place_of, small_houses
from noticeways.readings import readings


def kept_readings(notice, decided):
    """A dict from meanings as to all small houses to the lists of the numbers of the readings that have them.

    Only readings that go with what was decided are in it, in the order of
    their numbers; their limit is the only one that is checked here.
    """
    houses = small_houses()
    asked = [(place_of(house, houses), truth) for house, truth in decided]
    found = {}
    for number, meaning in enumerate(meanings(readings(notice), houses)):
        if all([holds_at(meaning, at) == truth for at, truth in asked]):
            found.setdefault(meaning, []).append(number)
    return found


def kept_numbers(notice, decided):
    """The ascending list of the numbers of the readings that go with what was decided."""
    return sorted([number for numbers in kept_readings(notice, decided).values() for number in numbers])
