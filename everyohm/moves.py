"""Moves of labs: what they are, and why something is none."""

from everyohm.checks import require
from everyohm.kinds import is_between, is_quotient
from everyohm.netnodes import is_switch_of, is_tank_of
from everyohm.quotients import NOUGHT, ONE, is_part
from everyohm.worldfits import is_within
from everyohm.worldkinds import bounds_of, is_base

# How many parts a move has, by its word.
PARTS = {"turn": 2, "feed": 3, "read": 3, "settle": 3}


def reason_of(net, base, move):
    """Return None for a move of the net, otherwise the word for what is wrong with it."""
    require(is_base(base), "base")
    return move_fault(net, base, move)


def move_fault(net, base, move):
    """Return what reason_of returns, for what is known to be a base."""
    if not has_shape(move):
        return "shape"
    if move[0] == "turn":
        return None if are_feed_volts(net, move[1]) else "volt"
    if move[0] == "feed":
        return feed_move_fault(net, move)
    if move[0] == "read":
        return reading_fault(net, base, move)
    return settling_fault(net, move)


def has_shape(thing):
    """Return whether thing is a tuple of a word for a move and as many parts as it has."""
    if not isinstance(thing, tuple) or len(thing) == 0 or not isinstance(thing[0], str):
        return False
    return len(thing) == PARTS.get(thing[0], 0)


def are_feed_volts(net, thing):
    """Return whether thing has a volt for each feed, nought for low and one for high."""
    if not isinstance(thing, tuple) or len(thing) != len(net[0]):
        return False
    return all(is_part(volt) for volt in thing) and thing[:2] == (NOUGHT, ONE)


def are_shares(net, thing):
    """Return whether thing has a quotient from nought to one for each tank."""
    if not isinstance(thing, tuple) or len(thing) != len(net[1]):
        return False
    return all(is_part(share) for share in thing)


def feed_move_fault(net, move):
    """Return what is wrong with a feed's move, or None."""
    _, feed, volt = move
    if not is_between(feed, 2, len(net[0]) - 1):
        return "feed"
    return None if is_part(volt) else "volt"


def reading_fault(net, base, move):
    """Return what is wrong with a reading, or None."""
    _, switch, flow = move
    if not is_switch_of(net, switch) or net[2][switch][0] == "tie":
        return "switch"
    _, greatest = bounds_of(base, net[2][switch][1])
    return None if is_quotient(flow) and is_within(flow, 0, greatest) else "flow"


def settling_fault(net, move):
    """Return what is wrong with a settling, or None."""
    _, tank, shares = move
    if not is_tank_of(net, tank):
        return "tank"
    return None if are_shares(net, shares) else "shares"


def whole_settling(net, tank):
    """Return the settling of a tank with one as each share."""
    require(is_tank_of(net, tank), "tank")
    return ("settle", tank, (ONE,) * len(net[1]))
