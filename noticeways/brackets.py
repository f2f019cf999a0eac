"""The fewest brackets that make a notice plain."""

from noticeways.checks import check_notice
from noticeways.comparing import harmless
from noticeways.errors import TooMany
from noticeways.notices import is_notice
from noticeways.readings import check_readings
from noticeways.texts import notice_text

CLAUSE_LIMIT = 3
SIGN_LIMIT = 9
MOST_PAIRS = 2


def least_brackets(notice):
    """The harmless notices that come of a notice by as few pairs of brackets as can be, at most two, by their texts."""
    check_notice(notice)
    check_readings(notice)
    if len([sign for sign in notice if isinstance(sign, tuple)]) > CLAUSE_LIMIT:
        raise TooMany(CLAUSE_LIMIT)
    if len(notice) > SIGN_LIMIT:
        raise TooMany(SIGN_LIMIT)
    tried = [notice]
    found = _harmless_ones(tried)
    for _ in range(MOST_PAIRS):
        if not found:
            tried = _with_a_pair_more(tried)
            found = _harmless_ones(tried)
    return sorted(found, key=notice_text)


def _harmless_ones(notices):
    return [one for one in notices if harmless(one)]


def _with_a_pair_more(notices):
    """All notices that come of these by one more pair of brackets, each once."""
    # Only notices are gone on with. No way is lost by this: what comes of two
    # more pairs is a notice in between, too, if the first opening bracket and
    # the first shutting one of the four are put in ahead of the others.
    made = {}
    for signs in notices:
        for opening in range(len(signs)):
            for shutting in range(opening + 1, len(signs) + 1):
                one = signs[:opening] + ("(",) + signs[opening:shutting] + (")",) + signs[shutting:]
                if is_notice(one):
                    made[notice_text(one)] = one
    return list(made.values())
