"""What formulas mean: in which of some houses they hold.

A meaning is an integer with a bit for each house of a list, beginning with
the lowest one: 1 if the formula holds in the house, 0 if it does not.
"""

from noticeways.notices import PAIR_WORDS

# No formula can tell more than four people of a sort from four.
MOST_TOLD_APART = 4

SORT_WITH_BOTH = 3
SORT_WITH_ALONE = {"a": 1, "b": 2}
SORTS_WITH = {"a": (1, 3), "b": (2, 3), "both": (3,)}


def small_houses():
    """All small houses, in the order of houses; what holds in these tells what holds in any house."""
    # Nobody of sort 0 is ever counted. So a formula holds in a house if and
    # only if it does in the small one with as many people, at most four, of
    # each other sort; and that one is no later in the order.
    counts = list(range(MOST_TOLD_APART + 1))
    houses = [(0, one, other, both) for one in counts for other in counts for both in counts]
    return sorted(houses, key=lambda house: (sum(house), house))


def meanings(formulas, houses):
    """The list of the meanings of formulas, as to these houses."""
    simple = _simple_meanings(formulas, houses)
    return [_meaning(formula, simple, everywhere(houses)) for formula in formulas]


def everywhere(houses):
    """The meaning of what holds in all of these houses."""
    return (1 << len(houses)) - 1


def holds_at(meaning, at):
    """Whether a meaning has the house with an index in the list."""
    return (meaning >> at) & 1 == 1


def houses_of(meaning, houses):
    """The list of those of these houses that a meaning has, in their order."""
    return [house for at, house in enumerate(houses) if holds_at(meaning, at)]


def place_of(house, houses):
    """The index among all small houses of the one in which the same formulas hold as in a house."""
    one, other, both = [min(many, MOST_TOLD_APART) for many in house[1:]]
    return houses.index((0, one, other, both))


def first_of_all(formula):
    """The first of all houses in which a formula holds, or None."""
    houses = small_houses()
    found = houses_of(meanings([formula], houses)[0], houses)
    return found[0] if found else None


def _meaning(formula, simple, whole):
    word = formula[0]
    if word == "not":
        return whole ^ _meaning(formula[1], simple, whole)
    if word not in PAIR_WORDS:
        return simple[formula]
    one = _meaning(formula[1], simple, whole)
    other = _meaning(formula[2], simple, whole)
    if word == "and":
        return one & other
    if word == "or":
        return one | other
    if word == "if":
        return (whole ^ one) | other
    return one ^ other


def _simple_meanings(formulas, houses):
    # The readings of a notice are put together of a few simple formulas, so
    # each of these is looked at once only.
    found = {}
    for formula in formulas:
        for part in _simple_parts(formula):
            if part not in found:
                found[part] = sum([1 << at for at, house in enumerate(houses) if _holds_simply(part, house)])
    return found


def _simple_parts(formula):
    if formula[0] == "not":
        return _simple_parts(formula[1])
    if formula[0] in PAIR_WORDS:
        return _simple_parts(formula[1]) + _simple_parts(formula[2])
    return [formula]


def _holds_simply(formula, house):
    word, first, second = formula
    if word == "all":
        return house[SORT_WITH_ALONE[first]] == 0
    if word == "some":
        return house[SORT_WITH_BOTH] > 0
    if word == "no":
        return house[SORT_WITH_BOTH] == 0
    many = sum([house[sort] for sort in SORTS_WITH[second]])
    return many >= first if word == "least" else many == first
