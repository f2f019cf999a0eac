"""Which readings go with houses that were decided, and what these say of another one."""

from noticeways.checks import check_cases, check_house, check_notice
from noticeways.kept import kept_numbers, kept_readings
from noticeways.meanings import holds_at, place_of, small_houses


def left(notice, decided):
    """The ascending list of the numbers of all readings that go with what was decided."""
    check_notice(notice)
    check_cases(decided)
    return kept_numbers(notice, decided)


def told(notice, decided, house):
    """Whether all readings that go with what was decided hold in a house, or none does; otherwise None."""
    check_notice(notice)
    check_cases(decided)
    check_house(house)
    at = place_of(house, small_houses())
    truths = [holds_at(meaning, at) for meaning in kept_readings(notice, decided)]
    if True in truths and False in truths:
        return None
    return truths[0] if truths else None
