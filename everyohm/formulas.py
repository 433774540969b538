"""Formulas over the values of nodes and notes, and what they are worth."""

from everyohm.checks import require
from everyohm.errors import NoSuchName
from everyohm.kinds import is_flat_name, is_value
from everyohm.values import flipped

DEEPEST = 8
PAIR_WORDS = ("and", "or", "xor")
# "and" gives the part that comes first here, "or" the one that comes last.
RISING = (0, 2, 1)


def is_formula(thing):
    """Return whether thing is a formula."""
    return is_formula_within(thing, DEEPEST)


def is_formula_within(thing, depth):
    """Return whether thing is a formula at most depth deep."""
    if depth == 0 or not isinstance(thing, tuple):
        return False
    if len(thing) == 3:
        return thing[0] in PAIR_WORDS and all(is_formula_within(part, depth - 1) for part in thing[1:])
    if len(thing) != 2:
        return False
    word, part = thing
    if word == "not":
        return is_formula_within(part, depth - 1)
    return (word == "val" and is_value(part)) or (word == "at" and is_flat_name(part))


def are_known_values(thing):
    """Return whether thing is a tuple of pairs (flat name, value), no name twice."""
    if not isinstance(thing, tuple) or not all(is_known_value(row) for row in thing):
        return False
    return len({name for name, _ in thing}) == len(thing)


def is_known_value(thing):
    """Return whether thing is a pair (flat name, value)."""
    if not isinstance(thing, tuple) or len(thing) != 2:
        return False
    return is_flat_name(thing[0]) and is_value(thing[1])


def formula_worth(formula, known):
    """Return the value of a formula by the values of names."""
    require(is_formula(formula), "formula")
    require(are_known_values(known), "known")
    return worth_with(formula, dict(known))


def worth_with(formula, table):
    """Return the value of a formula by a dict with the values of names."""
    word, part = formula[0], formula[1]
    if word == "val":
        return part
    if word == "at":
        if part not in table:
            raise NoSuchName(part)
        return table[part]
    if word == "not":
        return flipped(worth_with(part, table))
    return combined(word, worth_with(part, table), worth_with(formula[2], table))


def combined(word, one, other):
    """Return what two values give with "and", "or" or "xor"."""
    if word == "xor":
        if 2 in (one, other):
            return 2
        return 0 if one == other else 1
    first, last = (one, other) if RISING.index(one) < RISING.index(other) else (other, one)
    return first if word == "and" else last


def names_in(formula):
    """Return the names in a formula, from the left."""
    if formula[0] == "at":
        return [formula[1]]
    if formula[0] == "val":
        return []
    return [name for part in formula[1:] for name in names_in(part)]
