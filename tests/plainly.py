"""A second, plain reckoning of what formulas mean, by searching houses one by one, and formulas to try it on."""

import functools
import itertools
import random

PAIRS = (("a", "b"), ("b", "a"))
MARKED = [(word,) + pair for word in ("all", "some", "no") for pair in PAIRS]
COUNTED = [(word, many, mark) for word in ("least", "just") for many in (1, 2, 3) for mark in ("a", "b", "both")]
SIMPLE = MARKED + COUNTED
# The marks of the people of each sort.
SORTS = ("", "a", "b", "ab")


def in_order(houses):
    """Houses in their order: fewer people first, then as tuples."""
    return sorted(houses, key=lambda house: (house[0] + house[1] + house[2] + house[3], house))


# All houses with up to four people of each sort.
HOUSES = tuple(in_order(itertools.product(range(5), repeat=4)))


def people_with(house, *marks):
    """How many people of a house have all of these marks."""
    return sum(many for many, sort in zip(house, SORTS) if all(mark in sort for mark in marks))


def plainly_holds(formula, house):
    """Whether a formula holds in a house, word by word."""
    word, *parts = formula
    if word == "all":
        return people_with(house, parts[0]) == people_with(house, *parts)
    if word == "some":
        return people_with(house, *parts) >= 1
    if word == "no":
        return not people_with(house, *parts)
    if word in ("least", "just"):
        many = people_with(house, *{"both": "ab"}.get(parts[1], parts[1]))
        return many in range(parts[0], 5 * 10 ** 30) if word == "least" else many == parts[0]
    truths = [plainly_holds(part, house) for part in parts]
    if word == "not":
        return truths == [False]
    return tuple(truths) in {
        "and": [(True, True)],
        "or": [(True, True), (True, False), (False, True)],
        "if": [(True, True), (False, True), (False, False)],
        "other": [(True, False), (False, True)],
    }[word]


def where(formula, houses=HOUSES):
    """Those of some houses in which a formula holds, in their order."""
    found = found_in(formula, tuple(houses))
    return [house for house in houses if house in found]


def found_in(formula, houses):
    """The set of those of some houses in which a formula holds."""
    if formula in SIMPLE:
        return simply_found(formula, houses)
    parts = [found_in(part, houses) for part in formula[1:]]
    if formula[0] == "not":
        return frozenset(houses) - parts[0]
    one, other = parts
    return {"and": one & other, "or": one | other, "other": one ^ other,
            "if": (frozenset(houses) - one) | other}[formula[0]]


@functools.lru_cache(maxsize=None)
def found_in_all(formula):
    """The set of those of HOUSES in which a formula holds."""
    return found_in(formula, HOUSES)


@functools.lru_cache(maxsize=None)
def simply_found(formula, houses):
    return frozenset(house for house in houses if plainly_holds(formula, house))


def houses_with(people):
    """All houses with just so many people."""
    counts = range(people + 1)
    return [(people - sum(three),) + three for three in itertools.product(counts, repeat=3) if sum(three) <= people]


def grown_formulas(many, depth, seed):
    """So many formulas nested at most so deep, grown at random, but always the same ones."""
    dice = random.Random(seed)
    return [grow(dice, depth) for _ in range(many)]


def grow(dice, depth):
    chance = dice.random()
    if depth == 1 or chance < 0.15:
        return dice.choice(SIMPLE)
    if chance < 0.35:
        return ("not", grow(dice, depth - 1))
    return (dice.choice(["and", "or", "if", "other"]), grow(dice, depth - 1), grow(dice, depth - 1))


def full(word, depth):
    """A formula of pairs only, just so deep, with 2 ** (depth - 1) simple ones within it."""
    row = [SIMPLE[at % len(SIMPLE)] for at in range(2 ** (depth - 1))]
    while len(row) > 1:
        row = [(word, one, other) for one, other in zip(row[::2], row[1::2])]
    return row[0]
