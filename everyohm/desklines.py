"""Orders of a desk, and their lines."""

from everyohm.bookkinds import is_size, is_strength
from everyohm.checks import require
from everyohm.errors import InvalidLine
from everyohm.integertexts import integer_text
from everyohm.kinds import is_between, is_flat_name, is_name, is_number_word, is_values
from everyohm.netreadings import values_of
from everyohm.valuetexts import values_text

GREATEST_SWITCH = 999999
# The kinds of the parts behind the first word of an order.
PARTS = {
    "feed": ("name",),
    "tank": ("name", "size"),
    "one": ("strength", "name", "name", "name"),
    "zero": ("strength", "name", "name", "name"),
    "tie": ("strength", "name", "name"),
    "drop": ("name",),
    "cut": ("switch",),
    "size": ("name", "size"),
    "strength": ("switch", "strength"),
    "go": ("values",),
    "spread": ("values",),
    "flicker": ("values",),
    "tell": (),
    "why": ("name",),
    "net": (),
    "state": (),
    "short": ("names",),
    "make": ("top", "text"),
    "bench": ("text",),
}


def fits_kind(thing, kind):
    """Return whether thing can be a part of this kind."""
    if kind == "name":
        return is_flat_name(thing)
    if kind == "top":
        return is_name(thing)
    if kind == "size":
        return is_size(thing)
    if kind == "strength":
        return is_strength(thing)
    if kind == "switch":
        return is_between(thing, 0, GREATEST_SWITCH)
    if kind == "values":
        return is_values(thing)
    if kind == "names":
        return isinstance(thing, tuple) and all(is_flat_name(name) for name in thing)
    return isinstance(thing, str) and "|" not in thing


def is_order(thing):
    """Return whether thing is an order."""
    if not isinstance(thing, tuple) or len(thing) == 0 or not isinstance(thing[0], str):
        return False
    if thing[0] not in PARTS or len(thing) != 1 + len(PARTS[thing[0]]):
        return False
    return all(fits_kind(part, kind) for part, kind in zip(thing[1:], PARTS[thing[0]]))


def order_line(order):
    """Return the line of an order."""
    require(is_order(order), "order")
    words = [order[0]]
    for part, kind in zip(order[1:], PARTS[order[0]]):
        words.extend(words_for(part, kind))
    return " ".join(words)


def words_for(part, kind):
    """Return the words of a part of an order."""
    if kind in ("size", "strength", "switch"):
        return (integer_text(part),)
    if kind == "values":
        return (values_text(part),)
    if kind == "names":
        return part
    return (part.replace("\n", "|"),)


def read_order(text):
    """Return the order that has the line text."""
    require(isinstance(text, str), "text")
    words = text.split(" ")
    if words[0] not in PARTS:
        raise InvalidLine("word")
    kinds = PARTS[words[0]]
    if "names" in kinds:
        parts = (tuple(words[1:]),)
    else:
        parts = parts_in(words[1:], kinds)
    if not all(fits_kind(part, kind) for part, kind in zip(parts, kinds)):
        raise InvalidLine("part")
    return (words[0],) + parts


def parts_in(words, kinds):
    """Return what the words of a line stand for, None for a word that cannot stand at its place."""
    if kinds[-1:] == ("text",) and len(words) >= len(kinds):
        # All spaces from there on belong to the text.
        words = words[:len(kinds) - 1] + [" ".join(words[len(kinds) - 1:])]
    if len(words) != len(kinds):
        raise InvalidLine("many")
    return tuple(part_in(word, kind) for word, kind in zip(words, kinds))


def part_in(word, kind):
    """Return what a word stands for at the place of a part, or None."""
    if kind in ("size", "strength", "switch"):
        return int(word) if is_number_word(word) else None
    if kind == "values":
        return values_of(word)
    if kind == "text":
        # A newline is told by | alone.
        return None if "\n" in word else word.replace("|", "\n")
    return word
