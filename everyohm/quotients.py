"""Working with quotients: pairs (top, bottom) in lowest terms."""

from math import gcd, lcm

from everyohm.checks import require
from everyohm.kinds import is_between, is_integer, is_quotient

NOUGHT = (0, 1)
ONE = (1, 1)
GREATEST_EXPONENT = 64


def quotient_of(top, bottom):
    """Return the quotient that stands for top / bottom."""
    require(is_integer(top), "top")
    require(is_integer(bottom) and bottom != 0, "bottom")
    return lowest(top, bottom)


def lowest(top, bottom):
    """Return top / bottom in lowest terms, the bottom above 0."""
    divisor = gcd(top, bottom)
    if bottom < 0:
        divisor = -divisor
    return (top // divisor, bottom // divisor)


def require_two(one, other):
    """Raise NotUsable unless both are quotients."""
    require(is_quotient(one), "one")
    require(is_quotient(other), "other")


def plus(one, other):
    """Return the sum of two quotients."""
    require_two(one, other)
    return lowest(one[0] * other[1] + other[0] * one[1], one[1] * other[1])


def minus(one, other):
    """Return one less other."""
    require_two(one, other)
    return lowest(one[0] * other[1] - other[0] * one[1], one[1] * other[1])


def times(one, other):
    """Return the product of two quotients."""
    require_two(one, other)
    return lowest(one[0] * other[0], one[1] * other[1])


def over(one, other):
    """Return one divided by other, which is not nought."""
    require_two(one, other)
    require(other[0] != 0, "other")
    return lowest(one[0] * other[1], one[1] * other[0])


def is_less(one, other):
    """Return whether one is less than other."""
    require_two(one, other)
    return one[0] * other[1] < other[0] * one[1]


def is_quotients(thing):
    """Return whether thing is a tuple of quotients."""
    return isinstance(thing, tuple) and all(is_quotient(part) for part in thing)


def is_part(thing):
    """Return whether thing is a quotient from nought to one."""
    return is_quotient(thing) and 0 <= thing[0] <= thing[1]


def over_common(quotients):
    """Return a list of the tops of quotients over one common bottom, and this bottom."""
    common = 1
    for _, bottom in quotients:
        common = lcm(common, bottom)
    return [top * (common // bottom) for top, bottom in quotients], common


def total(quotients):
    """Return the sum of a tuple of quotients."""
    require(is_quotients(quotients), "quotients")
    return sum_of(quotients)


def sum_of(quotients):
    """Return the sum of what are known to be quotients."""
    tops, bottom = over_common(quotients)
    return lowest(sum(tops), bottom)


def least_of(quotients):
    """Return the least of a tuple of at least one quotient."""
    require(is_quotients(quotients) and len(quotients) > 0, "quotients")
    least = quotients[0]
    for quotient in quotients:
        if is_less(quotient, least):
            least = quotient
    return least


def greatest_of(quotients):
    """Return the greatest of a tuple of at least one quotient."""
    require(is_quotients(quotients) and len(quotients) > 0, "quotients")
    greatest = quotients[0]
    for quotient in quotients:
        if is_less(greatest, quotient):
            greatest = quotient
    return greatest


def volt_reads(quotient):
    """Return what a volt reads: 0 up to 1/4, 1 from 3/4 on, otherwise 2."""
    require(is_quotient(quotient), "quotient")
    top, bottom = quotient
    if 4 * top <= bottom:
        return 0
    if 4 * top >= 3 * bottom:
        return 1
    return 2


def power(base, exponent):
    """Return base ** exponent, an integer."""
    require(is_integer(base), "base")
    require(is_between(exponent, 0, GREATEST_EXPONENT), "exponent")
    result = 1
    for _ in range(exponent):
        result = result * base
    return result
