"""Which values are notices, houses and formulas."""

from noticeways.rows import JOINTS, is_row

MOST_SIGNS = 16
MOST_CLAUSES = 4
MOST_PEOPLE = 10 ** 30
MOST_DEPTH = 10
MOST_TOLD = 3
SORTS = 4

MARK_CLAUSES = ("all", "some", "no", "allnot")
COUNT_CLAUSES = ("has",)
MARKS = (("a", "b"), ("b", "a"))
COUNTED = ("a", "b", "both")
OTHER_SIGNS = ("not", "(", ")")
PAIR_WORDS = ("and", "or", "if", "other")


def is_notice(value):
    """Whether a value is a notice."""
    if not isinstance(value, tuple) or not 1 <= len(value) <= MOST_SIGNS:
        return False
    if not all([is_sign(sign) for sign in value]):
        return False
    clauses = [sign for sign in value if isinstance(sign, tuple)]
    return len(clauses) <= MOST_CLAUSES and is_row(value)


def is_house(value):
    """Whether a value is a house."""
    if not isinstance(value, tuple) or len(value) != SORTS:
        return False
    return all([is_number(many, 0, MOST_PEOPLE) for many in value])


def is_formula(value):
    """Whether a value is a formula."""
    return _is_nested(value, MOST_DEPTH)


def is_sign(value):
    """Whether a value is a sign."""
    if isinstance(value, str):
        return value in JOINTS or value in OTHER_SIGNS
    return _is_triple(value, MARK_CLAUSES, COUNT_CLAUSES)


def is_number(value, least, most):
    """Whether a value is an integer from the least to the most one."""
    # A truth is an int for Python, but no integer for a notice.
    if not isinstance(value, int) or isinstance(value, bool):
        return False
    return least <= value <= most


def _is_triple(value, mark_words, count_words):
    """Whether a value is a word of the former with two marks, or of the latter with a count."""
    if not isinstance(value, tuple) or len(value) != 3:
        return False
    word, first, second = value
    if word in mark_words:
        return (first, second) in MARKS
    return word in count_words and is_number(first, 1, MOST_TOLD) and second in COUNTED


def _is_nested(value, depth):
    # The depth is what may still be used up: a value that is nested deeper
    # than any formula is given up early, however many parts it has.
    if depth == 0 or not isinstance(value, tuple) or len(value) == 0:
        return False
    if value[0] == "not":
        return len(value) == 2 and _is_nested(value[1], depth - 1)
    if value[0] in PAIR_WORDS:
        return len(value) == 3 and _is_nested(value[1], depth - 1) and _is_nested(value[2], depth - 1)
    return _is_triple(value, ("all", "some", "no"), ("least", "just"))
