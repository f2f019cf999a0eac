"""How the meanings of two formulas, or of all readings of a notice, stand to each other."""

from noticeways.checks import check_formula, check_notice
from noticeways.kept import kept_readings
from noticeways.meanings import first_of_all, meanings, small_houses


def relation(one, other):
    """The word for how the houses in which two formulas hold stand to each other."""
    check_formula(one)
    check_formula(other)
    first, second = meanings([one, other], small_houses())
    shared = first & second
    if first == second:
        return "same"
    if shared == first:
        return "within"
    if shared == second:
        return "around"
    return "apart" if shared == 0 else "crossing"


def parting(one, other):
    """The first house in which just one of two formulas holds, or None."""
    check_formula(one)
    check_formula(other)
    return first_of_all(("other", one, other))


def groups(notice):
    """The ascending list of ascending tuples of the numbers of all readings that are the same."""
    check_notice(notice)
    # A dict keeps its order: each group came in with its least number.
    return [tuple(numbers) for numbers in kept_readings(notice, ()).values()]


def harmless(notice):
    """Whether all readings of a notice are the same."""
    check_notice(notice)
    return len(kept_readings(notice, ())) == 1
