"""The texts of data: integers, bools, None, strings and tuples of these."""

from everyohm.checks import require
from everyohm.integertexts import integer_text

DEEPEST = 8


def is_data(thing, depth):
    """Return whether thing is data whose tuples are at most depth deep."""
    if isinstance(thing, tuple):
        return depth > 0 and all(is_data(part, depth - 1) for part in thing)
    if isinstance(thing, str):
        return '"' not in thing and "\n" not in thing
    return thing is None or isinstance(thing, int)


def data_text(thing):
    """Return the text of data."""
    require(is_data(thing, DEEPEST), "thing")
    return text_of_part(thing)


def text_of_part(thing):
    """Return the text of something that is known to be data."""
    if thing is None:
        return "none"
    if thing is True:
        return "yes"
    if thing is False:
        return "no"
    if isinstance(thing, str):
        return '"' + thing + '"'
    if isinstance(thing, int):
        return integer_text(thing)
    return tuple_text(thing)


def tuple_text(parts):
    """Return the text of a tuple of data."""
    texts = [text_of_part(part) for part in parts]
    if len(texts) == 1:
        return "(" + texts[0] + ",)"
    return "(" + ",".join(texts) + ")"
