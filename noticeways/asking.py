"""Which houses to ask for, until it is clear what a notice means."""

from noticeways.checks import check_cases, check_notice, check_plan
from noticeways.errors import TooMany
from noticeways.kept import kept_readings
from noticeways.meanings import holds_at, place_of, small_houses
from noticeways.readings import readings

MOST_UNLIKE = 8


def best_house(notice, decided):
    """The pair of how many unlike readings are left at most, and of the first house with so few; or None."""
    check_notice(notice)
    check_cases(decided)
    unlike = list(kept_readings(notice, decided))
    if len(unlike) < 2:
        return None
    houses = small_houses()
    many, at = min([(_most_left(unlike, at), at) for at in range(len(houses))])
    return (many, houses[at])


def fewest_questions(notice, decided):
    """The least number of houses to ask for, one behind another, until at most one unlike reading is left."""
    check_notice(notice)
    check_cases(decided)
    return _best_plan(notice, decided)[0]


def plan_for(notice, decided):
    """A plan with as few questions, one behind another, as can be."""
    check_notice(notice)
    check_cases(decided)
    return _best_plan(notice, decided)[1]


def settles(notice, decided, plan):
    """Whether a plan leads from each reading that goes with what was decided to one that is the same."""
    check_notice(notice)
    check_cases(decided)
    check_plan(plan, len(readings(notice)))
    houses = small_houses()
    kept = kept_readings(notice, decided)
    return all([_end(plan, meaning, houses) in numbers for meaning, numbers in kept.items()])


def _most_left(unlike, at):
    let = sum([1 for meaning in unlike if holds_at(meaning, at)])
    return max(let, len(unlike) - let)


def _best_plan(notice, decided):
    """The pair of the fewest questions, and of a plan with so few."""
    kept = kept_readings(notice, decided)
    if len(kept) > MOST_UNLIKE:
        raise TooMany(MOST_UNLIKE)
    houses = small_houses()
    # A group of unlike readings is an integer with a bit for each of them.
    # What an answer leaves of a group is a lesser integer, so that all best
    # pairs that a group needs are known ahead of it.
    lets = [_group_at(list(kept), at) for at in range(len(houses))]
    firsts = [numbers[0] for numbers in kept.values()]
    best = [(0, 0)]
    for group in range(1, 1 << len(firsts)):
        ways = [(_questions(group, let, best), at) for at, let in enumerate(lets) if 0 < (group & let) < group]
        if ways:
            questions, at = min(ways)
            yes, no = _parted(group, lets[at])
            best.append((questions, ("ask", houses[at], best[yes][1], best[no][1])))
        else:
            best.append((0, firsts[group.bit_length() - 1]))
    return best[-1]


def _group_at(unlike, at):
    return sum([1 << number for number, meaning in enumerate(unlike) if holds_at(meaning, at)])


def _parted(group, let):
    return (group & let, group & ~let)


def _questions(group, let, best):
    yes, no = _parted(group, let)
    return 1 + max(best[yes][0], best[no][0])


def _end(plan, meaning, houses):
    """The number that a plan leads to, if the houses that a meaning has are said to be let."""
    while isinstance(plan, tuple):
        at = place_of(plan[1], houses)
        plan = plan[2] if holds_at(meaning, at) else plan[3]
    return plan
