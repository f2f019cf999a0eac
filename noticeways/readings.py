"""All readings of a notice."""

from noticeways.checks import check_formula, check_notice
from noticeways.errors import TooMany
from noticeways.rows import is_bracketed, joint_places

MOST_READINGS = 300

JOINT_WORDS = {"and": ("and",), "or": ("or",), "onlyif": ("if",), "unless": ("or", "other")}


def readings(notice):
    """The ascending list of all readings of a notice."""
    check_notice(notice)
    # Counted first, since to build all readings may take very long.
    check_readings(notice)
    return sorted(_row_readings(notice))


def is_reading(notice, formula):
    """Whether a formula is a reading of a notice."""
    check_notice(notice)
    check_formula(formula)
    return _reads_as(notice, formula)


def check_readings(notice):
    """Raise TooMany for a notice that has more than 300 readings."""
    if _count_row(notice) > MOST_READINGS:
        raise TooMany(MOST_READINGS)


# No formula comes of a row in two ways: whether it begins with "not" tells
# the kind, the clauses within its first part tell the joint, and so on. So
# readings can be counted by sums and products, and each is built just once.


def _count_row(signs):
    if len(signs) == 1:
        return len(_clause_readings(signs[0]))
    if is_bracketed(signs):
        return _count_row(signs[1:-1])
    total = 0
    if signs[0] == "not":
        total = _count_row(signs[1:])
    for at in joint_places(signs):
        both = _count_row(signs[:at]) * _count_row(signs[at + 1:])
        total = total + len(JOINT_WORDS[signs[at]]) * both
    return total


def _row_readings(signs):
    if len(signs) == 1:
        return _clause_readings(signs[0])
    if is_bracketed(signs):
        return _row_readings(signs[1:-1])
    found = []
    if signs[0] == "not":
        found = [("not", one) for one in _row_readings(signs[1:])]
    for at in joint_places(signs):
        ahead = _row_readings(signs[:at])
        behind = _row_readings(signs[at + 1:])
        found.extend([(word, one, other) for word in JOINT_WORDS[signs[at]] for one in ahead for other in behind])
    return found


def _clause_readings(clause):
    word, first, second = clause
    if word == "allnot":
        return [("no", first, second), ("not", ("all", first, second))]
    if word == "has":
        return [("least", first, second), ("just", first, second)]
    return [clause]


def _reads_as(signs, formula):
    if len(signs) == 1:
        return formula in _clause_readings(signs[0])
    if is_bracketed(signs):
        return _reads_as(signs[1:-1], formula)
    if formula[0] == "not":
        return signs[0] == "not" and _reads_as(signs[1:], formula[1])
    for at in joint_places(signs):
        if formula[0] in JOINT_WORDS[signs[at]] and _reads_as(signs[:at], formula[1]):
            if _reads_as(signs[at + 1:], formula[2]):
                return True
    return False
