"""Expressions, and what they are worth."""

from everyohm.checks import require
from everyohm.errors import NoSuchName, TooMany
from everyohm.kinds import is_between, is_integer, is_name
from everyohm.words import is_book_name

DEEPEST = 8
GREATEST_NUMBER = 999999
GREATEST_WORTH = 1000000


def is_expr(thing):
    """Return whether thing is an expression."""
    return is_expr_within(thing, DEEPEST)


def is_expr_within(thing, depth):
    """Return whether thing is an expression at most depth deep."""
    if depth == 0 or not isinstance(thing, tuple):
        return False
    if len(thing) == 2:
        return is_atom(thing)
    if len(thing) != 3 or thing[0] not in ("plus", "minus", "times"):
        return False
    return all(is_expr_within(part, depth - 1) for part in thing[1:])


def is_atom(pair):
    """Return whether a pair is a num or a var."""
    word, part = pair
    if word == "num":
        return is_between(part, 0, GREATEST_NUMBER)
    return word == "var" and is_book_name(part)


def is_table(thing):
    """Return whether thing is a tuple of pairs (name, integer), no name twice."""
    if not isinstance(thing, tuple) or not all(is_row(row) for row in thing):
        return False
    return len({row[0] for row in thing}) == len(thing)


def is_row(thing):
    """Return whether thing is a pair (name, integer)."""
    if not isinstance(thing, tuple) or len(thing) != 2:
        return False
    return is_name(thing[0]) and is_integer(thing[1])


def worth(expr, names):
    """Return the integer for which expr stands, with names for its vars."""
    require(is_expr(expr), "expr")
    require(is_table(names), "names")
    return worth_by(expr, dict(names))


def worth_by(expr, table):
    """Return the integer for which an expression stands, by a dict of its vars."""
    word, first = expr[0], expr[1]
    if word == "num":
        return first
    if word == "var":
        if first not in table:
            raise NoSuchName(first)
        return table[first]
    return put_together(word, worth_by(first, table), worth_by(expr[2], table))


def put_together(word, one, other):
    """Return the sum, difference or product, unless it is too great."""
    if word == "plus":
        result = one + other
    elif word == "minus":
        result = one - other
    else:
        result = one * other
    if not -GREATEST_WORTH <= result <= GREATEST_WORTH:
        raise TooMany(GREATEST_WORTH)
    return result
