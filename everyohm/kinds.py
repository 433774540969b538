"""What integers, numbers, values, quotients, names and lots are."""

from math import gcd

LETTERS = "abcdefghijklmnopqrstuvwxyz"
DIGITS = "0123456789"
NAME_SIGNS = "abcdefghijklmnopqrstuvwxyz0123456789_"
LONGEST_NAME = 16
LONGEST_FLAT_NAME = 80
MOST_FIGURES = 6


def is_integer(thing):
    """Return whether thing is an integer: an int, but no bool."""
    return isinstance(thing, int) and not isinstance(thing, bool)


def is_number(thing):
    """Return whether thing is an integer of at least 0."""
    return is_integer(thing) and thing >= 0


def is_between(thing, least, most):
    """Return whether thing is an integer from least to most."""
    return is_integer(thing) and least <= thing <= most


def is_value(thing):
    """Return whether thing is 0, 1 or 2."""
    return is_between(thing, 0, 2)


def is_known(thing):
    """Return whether thing is 0 or 1."""
    return is_between(thing, 0, 1)


def is_values(thing):
    """Return whether thing is a tuple of values."""
    return isinstance(thing, tuple) and all(is_value(value) for value in thing)


def is_quotient(thing):
    """Return whether thing is a pair (top, bottom) in lowest terms."""
    if not isinstance(thing, tuple) or len(thing) != 2:
        return False
    top, bottom = thing
    if not is_integer(top) or not is_integer(bottom):
        return False
    return bottom >= 1 and gcd(top, bottom) == 1


def is_name(thing):
    """Return whether thing is a name."""
    if not isinstance(thing, str) or not 1 <= len(thing) <= LONGEST_NAME:
        return False
    if thing == "x" or thing[0] not in LETTERS:
        return False
    return all(sign in NAME_SIGNS for sign in thing)


def is_number_word(thing):
    """Return whether thing is 0, or one to six digits without a leading zero."""
    if not isinstance(thing, str) or not 1 <= len(thing) <= MOST_FIGURES:
        return False
    if not all(sign in DIGITS for sign in thing):
        return False
    return thing == "0" or thing[0] != "0"


def is_flat_name(thing):
    """Return whether thing is a flat name, as alu.q[3]."""
    if not isinstance(thing, str) or len(thing) > LONGEST_FLAT_NAME:
        return False
    place = name_end(thing, 0)
    while 0 < place < len(thing):
        place = part_end(thing, place)
    return place == len(thing)


def part_end(text, start):
    """Return the place behind the .name or [number] at start, or -1."""
    if text[start] == ".":
        return name_end(text, start + 1)
    if text[start] == "[":
        return number_end(text, start + 1)
    return -1


def name_end(text, start):
    """Return the place behind the name at start, or -1 if none stands there."""
    end = start
    while end < len(text) and text[end] in NAME_SIGNS:
        end += 1
    return end if is_name(text[start:end]) else -1


def number_end(text, start):
    """Return the place behind the number and its bracket at start, or -1."""
    end = text.find("]", start)
    if end < 0 or not is_number_word(text[start:end]):
        return -1
    return end + 1


def is_lot(thing):
    """Return whether thing is an ascending tuple of numbers."""
    if not isinstance(thing, tuple) or not all(is_number(one) for one in thing):
        return False
    return all(one < other for one, other in zip(thing, thing[1:]))
