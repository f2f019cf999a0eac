"""A second, plain reckoning of what deciding houses leaves, by searching all houses with up to four of each sort."""

import functools

from noticeways.readings import readings
from tests.plainly import HOUSES, found_in_all, plainly_holds


def plainly_left(formulas, decided):
    return [number for number, formula in enumerate(formulas)
            if [plainly_holds(formula, house) for house, _ in decided] == [truth for _, truth in decided]]


def plainly_told(formulas, decided, house):
    said = {plainly_holds(formulas[number], house) for number in plainly_left(formulas, decided)}
    return said.pop() if len(said) == 1 else None


def unlike_left(notice, decided):
    """The sets of houses in which the readings that go with what was decided hold, each once."""
    formulas = readings(notice)
    return list({found_in_all(formulas[number]) for number in plainly_left(formulas, decided)})


def plainly_best(notice, decided):
    """The first house that leaves the fewest unlike readings at the worst, with how many these are."""
    unlike = unlike_left(notice, decided)
    if len(unlike) < 2:
        return None
    worst = {}
    for house in HOUSES:
        let = sum(house in found for found in unlike)
        worst.setdefault(max(let, len(unlike) - let), house)
    return min(worst), worst[min(worst)]


def plainly_fewest(notice, decided):
    """The least number of questions that are enough, by trying all houses behind all answers."""
    unlike = unlike_left(notice, decided)
    sides = {frozenset(at for at, found in enumerate(unlike) if house in found) for house in HOUSES}

    @functools.lru_cache(maxsize=None)
    def enough(group, many):
        if len(group) < 2:
            return True
        return many > 0 and any(enough(group & side, many - 1) and enough(group - side, many - 1) for side in sides)

    return next(many for many in range(300) if enough(frozenset(range(len(unlike))), many))


def walked(plan, formula):
    """The number that a plan leads to, if each house is said to be let in which a formula holds."""
    while not isinstance(plan, int):
        _, house, yes, no = plan
        plan = yes if plainly_holds(formula, house) else no
    return plan


def plainly_settles(notice, decided, plan):
    """Whether a plan leads from each reading that is left to one that holds in the same houses."""
    formulas = readings(notice)
    return all(found_in_all(formulas[walked(plan, formulas[number])]) == found_in_all(formulas[number])
               for number in plainly_left(formulas, decided))


def questions_of(plan):
    """How many questions of a plan there are one behind another, at most."""
    return 0 if isinstance(plan, int) else 1 + max(questions_of(plan[2]), questions_of(plan[3]))


def ends_of(plan):
    """The list of the numbers at all ends of a plan."""
    return [plan] if isinstance(plan, int) else ends_of(plan[2]) + ends_of(plan[3])
