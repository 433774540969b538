"""Reading nets and states from texts."""

from everyohm.checks import require
from everyohm.errors import InvalidText, NotFlat
from everyohm.kinds import is_flat_name, is_values
from everyohm.netkinds import net_fault
from everyohm.statekinds import is_feeds, is_positions
from everyohm.valuetexts import read_values

SIZE_WORDS = ("1", "2", "3", "4")
STRENGTH_WORDS = ("1", "2", "3", "4", "5", "6")
# What stands behind the first word of a line.
LINE_PARTS = {
    "tank": ("name", "size"),
    "one": ("strength", "name", "name", "name"),
    "zero": ("strength", "name", "name", "name"),
    "tie": ("strength", "name", "name"),
}
STATE_PARTS = ("feeds", "tanks", "positions")


def read_net(text):
    """Return the net whose text is text."""
    require(isinstance(text, str), "text")
    rows = [line.split(" ") for line in text.split("\n")]
    require_words([rows[0][0] == "net"] + [is_flat_name(word) for word in rows[0][1:]], 0)
    may_be_tank = True
    for line in range(1, len(rows)):
        require_line(rows[line], line, may_be_tank)
        may_be_tank = rows[line][0] == "tank"
    thing = net_with_rows(rows)
    fault = net_fault(thing)
    if fault is not None:
        raise NotFlat("net", fault[0])
    return thing


def require_words(fits, line):
    """Raise InvalidText for the first word of a line that does not fit."""
    if False in fits:
        raise InvalidText(line, fits.index(False))


def require_count(words, many, line):
    """Raise InvalidText if a line has more words than many, or fewer."""
    if len(words) != many:
        raise InvalidText(line, min(len(words), many))


def require_line(words, line, may_be_tank):
    """Raise InvalidText unless the words are those of a tank or a switch."""
    word = words[0]
    require_words([word in LINE_PARTS and (may_be_tank or word != "tank")], line)
    parts = LINE_PARTS[word]
    require_words([True] + [fits_part(other, part) for other, part in zip(words[1:], parts)], line)
    require_count(words, 1 + len(parts), line)


def fits_part(word, part):
    """Return whether a word can stand where such a part of a line must."""
    if part == "size":
        return word in SIZE_WORDS
    if part == "strength":
        return word in STRENGTH_WORDS
    return is_flat_name(word)


def net_with_rows(rows):
    """Return what the lines of a text say: a net, unless it has a fault."""
    feeds = tuple(rows[0][1:])
    tanks = tuple((row[1], int(row[2])) for row in rows[1:] if row[0] == "tank")
    numbers = numbers_by_name(feeds + tuple(name for name, _ in tanks))
    switches = tuple(switch_with(row, numbers) for row in rows[1:] if row[0] != "tank")
    return (feeds, tanks, switches)


def numbers_by_name(names):
    """Return a dict with the first place of each name."""
    numbers = {}
    for place, name in enumerate(names):
        numbers.setdefault(name, place)
    return numbers


def switch_with(words, numbers):
    """Return the switch that a line tells; an unknown name gives -1, no node."""
    nodes = [numbers.get(name, -1) for name in words[2:]]
    if words[0] == "tie":
        nodes = [-1] + nodes
    return (words[0], int(words[1]), nodes[0], nodes[1], nodes[2])


def read_state(net, text):
    """Return the state of the net whose text is text."""
    require(isinstance(text, str), "text")
    words = text.split(" ")
    parts = [values_of(word) for word in words[1:]]
    fits = [words[0] == "state"] + [
        is_state_part(net, thing, part) for thing, part in zip(parts, STATE_PARTS)
    ]
    require_words(fits, 0)
    require_count(words, 1 + len(STATE_PARTS), 0)
    feeds, tanks, positions = parts
    return positions, feeds + tanks


def values_of(word):
    """Return the values whose text is a word, or None if it is no such text."""
    try:
        return read_values(word)
    except InvalidText:
        return None


def is_state_part(net, thing, part):
    """Return whether thing can be this part of a state of the net."""
    if part == "feeds":
        return is_feeds(net, thing)
    if part == "positions":
        return is_positions(net, thing)
    return is_values(thing) and len(thing) == len(net[1])
