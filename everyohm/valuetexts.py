"""The texts of tuples of values."""

from everyohm.checks import require
from everyohm.errors import InvalidText
from everyohm.kinds import is_values

SIGNS = "01x"


def values_text(values):
    """Return a character for each value, or - if there is none."""
    require(is_values(values), "values")
    return "".join(SIGNS[value] for value in values) or "-"


def read_values(text):
    """Return the tuple whose text is text."""
    require(isinstance(text, str), "text")
    if text == "-":
        return ()
    if text == "":
        raise InvalidText(0, 0)
    for place, sign in enumerate(text):
        if sign not in SIGNS:
            raise InvalidText(0, place)
    return tuple(SIGNS.index(sign) for sign in text)
