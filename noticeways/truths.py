"""In which houses a formula holds."""

from math import comb

from noticeways.checks import check_formula, check_house, check_people, check_truth
from noticeways.meanings import MOST_TOLD_APART, everywhere, first_of_all, houses_of, meanings, small_houses


def holds(formula, house):
    """Whether a formula holds in a house."""
    check_formula(formula)
    check_house(house)
    return meanings([formula], [house]) == [1]


def how(formula):
    """Whether a formula holds "always", "never" or "sometimes"."""
    check_formula(formula)
    houses = small_houses()
    meaning = meanings([formula], houses)[0]
    if meaning == everywhere(houses):
        return "always"
    return "never" if meaning == 0 else "sometimes"


def first_house(formula, truth):
    """The first house in which a formula holds, or, with False, does not; None if there is none."""
    check_formula(formula)
    check_truth(truth)
    return first_of_all(formula if truth else ("not", formula))


def count_houses(formula, people):
    """In how many houses with just so many people a formula holds."""
    check_formula(formula)
    check_people(people)
    houses = small_houses()
    found = houses_of(meanings([formula], houses)[0], houses)
    return sum([_count_like(house, people) for house in found])


def _count_like(small, people):
    """In how many houses with just so many people the same formulas hold as in this small house."""
    others = people - sum(small)
    if others < 0:
        return 0
    # The others are of sort 0, or of a sort of which the small house has as
    # many as can be told apart. With bars between these sorts, each way of
    # putting the bars among the others is a house.
    bars = small.count(MOST_TOLD_APART)
    return comb(others + bars, bars)
