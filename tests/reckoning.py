"""A second, plain reckoning of what a notice is and how it is read, and notices to try it on.

The package goes from the whole row down to its parts. Here everything goes the
other way: small pieces are put together, in all orders, until one is left.
"""

import itertools
import random
import re

JOINT_WORDS = {"and": ["and"], "or": ["or"], "onlyif": ["if"], "unless": ["or", "other"]}

A = (("all", "a", "b"),)
B = ("not", ("some", "a", "b"), "and", ("has", 1, "a"))
C = (("allnot", "a", "b"),)
D = (("some", "a", "b"), "or", ("all", "a", "b"), "and", ("all", "b", "a"))

HAS = ("has", 2, "both")
# Just 300 readings, 302, 304, and 44800 of them.
JUST_300 = ("not", "not", "not", "not") + A + ("and",) + A + ("and",) + A + ("unless", ("has", 1, "a"))
TWO_MORE = ("not",) * 5 + A + ("and",) + ("not",) * 4 + A + ("and",) + A + ("and",) + A
FEW_MORE = ("not",) + A + ("and",) + A + ("unless", "not", ("has", 1, "a"), "unless", ("has", 1, "a"))
VERY_MANY = ("not",) * 9 + (HAS, "unless", HAS, "unless", HAS, "unless", HAS)


def is_plain_row(signs):
    """Whether signs form a row: by striking out, in their letters, until one part is left."""
    letters = {"not": "n", "(": "(", ")": ")", "and": "j", "or": "j", "unless": "j", "onlyif": "j"}
    text = "".join(letters[sign] if isinstance(sign, str) else "p" for sign in signs)
    while True:
        shorter = re.sub(r"np|pjp|\(p\)", "p", text, count=1)
        if shorter == text:
            return text == "p"
        text = shorter


def plain_readings(notice):
    """The ascending list of all readings: the formulas that are left when all are put together."""
    waiting = list(itertools.product(*[clause_ways(sign) for sign in notice]))
    seen = set(waiting)
    while waiting:
        for one in steps(waiting.pop()):
            if one not in seen:
                seen.add(one)
                waiting.append(one)
    return sorted(one[0][1] for one in seen if len(one) == 1)


def clause_ways(sign):
    """The ways of one sign: a word as it is, a clause as each formula that it can be."""
    if isinstance(sign, str):
        return [sign]
    if sign[0] == "allnot":
        return [("formula", ("no",) + sign[1:]), ("formula", ("not", ("all",) + sign[1:]))]
    if sign[0] == "has":
        return [("formula", ("least",) + sign[1:]), ("formula", ("just",) + sign[1:])]
    return [("formula", sign)]


def steps(row):
    """All that comes of a row by putting one "not", one joint or one pair of brackets together."""
    found = []
    for at, item in enumerate(row):
        ahead, behind = row[:at], row[at + 1:]
        if item == "not" and is_made(behind[:1]):
            found.append(ahead + (("formula", ("not", behind[0][1])),) + behind[1:])
        if item == "(" and is_made(behind[:1]) and behind[1:2] == (")",):
            found.append(ahead + (behind[0],) + behind[2:])
        if isinstance(item, str) and item in JOINT_WORDS and is_made(ahead[-1:]) and is_made(behind[:1]):
            for word in JOINT_WORDS[item]:
                made = ("formula", (word, ahead[-1][1], behind[0][1]))
                found.append(ahead[:-1] + (made,) + behind[1:])
    return found


def is_made(items):
    return len(items) == 1 and isinstance(items[0], tuple)


def short_notices(signs, most):
    """All notices of at most so many of these signs."""
    found = []
    for many in range(1, most + 1):
        rows = itertools.product(signs, repeat=many)
        found.extend(row for row in rows if is_plain_row(row))
    return found


def grown_notices(many, most):
    """So many notices of at most so many signs, grown at random, but always the same ones."""
    dice = random.Random(11)
    found = []
    while len(found) < many:
        row = grow(dice, 4)
        if len(row) <= most and sum(isinstance(sign, tuple) for sign in row) <= 4:
            found.append(row)
    return found


def grow(dice, depth):
    """A row that is grown at random."""
    row = grow_part(dice, depth)
    while dice.random() < 0.5:
        row = row + (dice.choice(sorted(JOINT_WORDS)),) + grow_part(dice, depth)
    return row


def grow_part(dice, depth):
    chance = dice.random()
    if depth > 0 and chance < 0.3:
        return ("not",) + grow_part(dice, depth - 1)
    if depth > 0 and chance < 0.5:
        return ("(",) + grow(dice, depth - 1) + (")",)
    if chance < 0.7:
        return (("has", dice.randint(1, 3), dice.choice(["a", "b", "both"])),)
    marks = dice.choice([("a", "b"), ("b", "a")])
    return ((dice.choice(["all", "some", "no", "allnot"]),) + marks,)
