"""What positions, held values, feed values and states of a net are."""

from everyohm.checks import require
from everyohm.kinds import is_values


def is_positions(net, thing):
    """Return whether thing has a position for each switch, 1 for a tie."""
    switches = net[2]
    if not is_values(thing) or len(thing) != len(switches):
        return False
    return all(switch[0] != "tie" or position == 1 for switch, position in zip(switches, thing))


def is_held(net, thing):
    """Return whether thing has a value for each node, 0 for low and 1 for high."""
    return are_values_of(thing, len(net[0]) + len(net[1]))


def is_feeds(net, thing):
    """Return whether thing has a value for each feed, 0 for low and 1 for high."""
    return are_values_of(thing, len(net[0]))


def are_values_of(thing, many):
    """Return whether thing is a tuple of many values that begins with 0 and 1."""
    return is_values(thing) and len(thing) == many and thing[:2] == (0, 1)


def is_state(net, thing):
    """Return whether thing is a pair of positions and held values."""
    if not isinstance(thing, tuple) or len(thing) != 2:
        return False
    return is_positions(net, thing[0]) and is_held(net, thing[1])


def require_view(net, positions, held):
    """Raise NotUsable unless these are positions and held values of the net."""
    require(is_positions(net, positions), "positions")
    require(is_held(net, held), "held")
