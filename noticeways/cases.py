"""Which readings go with houses that were decided, and what these say of another one."""

from noticeways.checks import check_cases, check_house, check_notice
from noticeways.meanings import meanings
from noticeways.readings import readings


def left(notice, decided):
    """The ascending list of the numbers of all readings that go with what was decided."""
    check_notice(notice)
    check_cases(decided)
    return _numbers_left(readings(notice), decided)


def told(notice, decided, house):
    """Whether all readings that go with what was decided hold in a house, or none does; otherwise None."""
    check_notice(notice)
    check_cases(decided)
    check_house(house)
    formulas = readings(notice)
    kept = [formulas[number] for number in _numbers_left(formulas, decided)]
    truths = [meaning == 1 for meaning in meanings(kept, [house])]
    if True in truths and False in truths:
        return None
    return truths[0] if truths else None


def _numbers_left(formulas, decided):
    houses = [pair[0] for pair in decided]
    wanted = sum([1 << at for at, pair in enumerate(decided) if pair[1]])
    return [number for number, meaning in enumerate(meanings(formulas, houses)) if meaning == wanted]
