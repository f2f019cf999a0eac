"""The errors that wrong arguments raise, one function for each kind of argument."""

from noticeways.errors import (
    InvalidCases, InvalidFormula, InvalidHouse, InvalidIndex, InvalidNotice, InvalidNumber, InvalidPlan, InvalidTruth,
)
from noticeways.notices import MOST_PEOPLE, is_formula, is_house, is_notice, is_number

MOST_DECIDED = 6
MOST_QUESTIONS = 7


def check_notice(value):
    """Raise InvalidNotice for what is no notice."""
    if not is_notice(value):
        raise InvalidNotice("this is no notice")


def check_formula(value):
    """Raise InvalidFormula for what is no formula."""
    if not is_formula(value):
        raise InvalidFormula("this is no formula")


def check_house(value):
    """Raise InvalidHouse for what is no house."""
    if not is_house(value):
        raise InvalidHouse("this is no house")


def check_truth(value):
    """Raise InvalidTruth for what is no truth."""
    if not isinstance(value, bool):
        raise InvalidTruth("this is no truth")


def check_people(value):
    """Raise InvalidNumber for what is no number of people."""
    if not is_number(value, 0, MOST_PEOPLE):
        raise InvalidNumber("this is no number of people")


def check_index(value, many):
    """Raise InvalidIndex for what is no index of so many items."""
    if not is_number(value, 0, many - 1):
        raise InvalidIndex("this is no index")


def check_cases(value):
    """Raise InvalidCases for what is not what was decided."""
    if not isinstance(value, tuple) or len(value) > MOST_DECIDED or not all([_is_case(pair) for pair in value]):
        raise InvalidCases("this is not what was decided")


def check_plan(value, many):
    """Raise InvalidPlan for what is no plan for a notice with so many readings."""
    if not _is_plan(value, many, MOST_QUESTIONS):
        raise InvalidPlan("this is no plan")


def _is_case(value):
    if not isinstance(value, tuple) or len(value) != 2:
        return False
    return is_house(value[0]) and isinstance(value[1], bool)


def _is_plan(value, many, questions):
    # The questions are how many may still be asked one behind another.
    if not isinstance(value, tuple):
        return is_number(value, 0, many - 1)
    if len(value) != 4 or value[0] != "ask" or not is_house(value[1]) or questions == 0:
        return False
    return _is_plan(value[2], many, questions - 1) and _is_plan(value[3], many, questions - 1)
