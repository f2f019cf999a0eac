"""Plain tables of what a formula means."""

from noticeways.checks import check_formula
from noticeways.meanings import houses_of, meanings, small_houses
from noticeways.notices import SORTS


def reach(formula):
    """The tuple with the least number for each sort such that more people of it than that never matter."""
    check_formula(formula)
    return _reach(_small_houses_of(formula))


def table(formula):
    """The ascending list of all houses in which a formula holds, with at most as many of each sort as it reaches."""
    check_formula(formula)
    found = _small_houses_of(formula)
    most = _reach(found)
    return sorted([house for house in found if all([house[sort] <= most[sort] for sort in range(SORTS)])])


def _small_houses_of(formula):
    houses = small_houses()
    return houses_of(meanings([formula], houses)[0], houses)


def _reach(found):
    """The reach of a formula that holds in these of all small houses."""
    held = {house: True for house in found}
    houses = small_houses()
    matters = [[house[sort] for house in houses if _last_matters(house, sort, held)] for sort in range(SORTS)]
    return tuple([max(counts, default=0) for counts in matters])


def _last_matters(house, sort, held):
    """Whether the house with one fewer of a sort is not held alike."""
    if house[sort] == 0:
        return False
    fewer = house[:sort] + (house[sort] - 1,) + house[sort + 1:]
    return (house in held) != (fewer in held)
