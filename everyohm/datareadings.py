"""Reading the texts of data."""

from everyohm.checks import require
from everyohm.datatexts import DEEPEST
from everyohm.errors import InvalidText
from everyohm.integertexts import read_integer


def read_data(text):
    """Return the data whose text is text."""
    require(isinstance(text, str), "text")
    thing, end = part_at(text, 0, DEEPEST)
    if end != len(text):
        raise InvalidText(0, 0)
    return thing


def part_at(text, start, depth):
    """Return the data at start, with at most depth more tuples, and its end."""
    if text.startswith("(", start):
        return tuple_at(text, start + 1, depth)
    if text.startswith('"', start):
        return string_at(text, start + 1)
    return word_at(text, start)


def tuple_at(text, start, depth):
    """Return the tuple whose first part stands at start, and its end."""
    if depth == 0:
        raise InvalidText(0, 0)
    parts = []
    place = start
    while not text.startswith(")", place):
        if parts:
            place = behind_comma(text, place)
        part, place = part_at(text, place, depth - 1)
        parts.append(part)
        if len(parts) == 1 and text.startswith(",)", place):
            return (part,), place + 2
    # The text of a tuple of one part has been read above, by its comma.
    if len(parts) == 1:
        raise InvalidText(0, 0)
    return tuple(parts), place + 1


def behind_comma(text, place):
    """Return the place behind the comma at place."""
    if not text.startswith(",", place):
        raise InvalidText(0, 0)
    return place + 1


def string_at(text, start):
    """Return the string whose first character stands at start, and its end."""
    end = text.find('"', start)
    if end < 0 or "\n" in text[start:end]:
        raise InvalidText(0, 0)
    return text[start:end], end + 1


def word_at(text, start):
    """Return the integer, bool or None at start, and its end."""
    end = start
    while end < len(text) and text[end] not in ",)":
        end += 1
    return meaning(text[start:end]), end


def meaning(word):
    """Return what a word without quotes and brackets stands for."""
    if word == "none":
        return None
    if word == "yes" or word == "no":
        return word == "yes"
    integer = read_integer(word)
    if integer is None:
        raise InvalidText(0, 0)
    return integer
