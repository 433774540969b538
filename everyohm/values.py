"""The values 0, 1 and 2: joining, comparing and flipping them."""

from everyohm.checks import require
from everyohm.kinds import is_value, is_values


def joined(one, other):
    """Return the value itself if the two are the same, and 2 otherwise."""
    require(is_value(one), "one")
    require(is_value(other), "other")
    return one if one == other else 2


def joined_of(values):
    """Return the value that all of some values are, and 2 if two of them differ."""
    first = values[0]
    return first if all(value == first for value in values) else 2


def is_above(one, other):
    """Return whether one is above other: the same, or unknown."""
    require(is_value(one), "one")
    require(is_value(other), "other")
    return one == other or one == 2


def flipped(value):
    """Return 1 for 0, 0 for 1 and 2 for 2."""
    require(is_value(value), "value")
    return (1, 0, 2)[value]


def joined_all(ones, others):
    """Return two tuples of as many values joined, place by place."""
    require_pair(ones, others)
    return tuple(joined(one, other) for one, other in zip(ones, others))


def is_above_all(ones, others):
    """Return whether ones is above others, place by place."""
    require_pair(ones, others)
    return all(is_above(one, other) for one, other in zip(ones, others))


def require_pair(ones, others):
    """Raise NotUsable unless both are tuples of as many values."""
    require(is_values(ones), "ones")
    require(is_values(others) and len(others) == len(ones), "others")
