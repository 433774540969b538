"""Mirrors: nets, states and feed values with 0 and 1 changed about."""

from everyohm.checks import require
from everyohm.statekinds import is_feeds, is_state
from everyohm.values import flipped

OTHER_KIND = {"one": "zero", "zero": "one", "tie": "tie"}


def mirrored(net):
    """Return the net in which low and high, and one and zero, change places."""
    feeds, tanks, switches = net
    return (feeds, tanks, tuple(mirrored_switch(switch) for switch in switches))


def mirrored_switch(switch):
    """Return the switch of a mirrored net."""
    kind, strength, gate, left, right = switch
    return (OTHER_KIND[kind], strength, mirrored_node(gate), mirrored_node(left), mirrored_node(right))


def mirrored_node(node):
    """Return 1 for 0, 0 for 1, and every other node, or the gate of a tie, as it is."""
    return 1 - node if node in (0, 1) else node


def mirrored_state(net, state):
    """Return the state with all held values flipped but those of low and high."""
    require(is_state(net, state), "state")
    positions, held = state
    return positions, mirrored_values(held)


def mirrored_feeds(net, feeds):
    """Return the feed values flipped but those of low and high."""
    require(is_feeds(net, feeds), "feeds")
    return mirrored_values(feeds)


def mirrored_values(values):
    """Return values with the first two, and all further ones flipped."""
    return values[:2] + tuple(flipped(value) for value in values[2:])
