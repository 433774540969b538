"""Readings, the unknown start, and what states may be."""

from everyohm.checks import require
from everyohm.netnodes import count_of_nodes, gate_tanks
from everyohm.responses import responses_of
from everyohm.statekinds import is_held, is_state
from everyohm.values import flipped


def readings(net, held):
    """Return the reading of each switch."""
    require(is_held(net, held), "held")
    return readings_by(net, held)


def readings_by(net, held):
    """Return the readings by what are known to be held values."""
    return tuple(reading_of(switch, held) for switch in net[2])


def reading_of(switch, held):
    """Return the reading of a switch by held values."""
    kind, gate = switch[0], switch[2]
    return 1 if kind == "tie" else reading_by_gate(kind, held[gate])


def reading_by_gate(kind, value):
    """Return the reading of a switch that is no tie by the value of its gate."""
    return value if kind == "one" else flipped(value)


def unknown_start(net):
    """Return the state in which nothing is known but low and high."""
    held = (0, 1) + (2,) * (count_of_nodes(net) - 2)
    return readings_by(net, held), held


def is_resting(net, state):
    """Return whether all positions are the readings, and all held values the responses."""
    require(is_state(net, state), "state")
    positions, held = state
    return positions == readings_by(net, held) and held == responses_of(net, positions, held)


def is_known_state(net, state):
    """Return whether all positions and all gate tanks are known."""
    require(is_state(net, state), "state")
    return has_known_gates(net, state)


def has_known_gates(net, state):
    """Return what is_known_state returns, for what is known to be a state."""
    positions, held = state
    return 2 not in positions and all(held[tank] != 2 for tank in gate_tanks(net))


def is_even(net, state):
    """Return whether switches of the same kind and gate have the same position."""
    require(is_state(net, state), "state")
    found = {}
    for (kind, _, gate, _, _), position in zip(net[2], state[0]):
        if found.setdefault((kind, gate), position) != position:
            return False
    return True
