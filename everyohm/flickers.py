"""What a turn shows only on its way: flickers, shown tanks, single turns."""

from everyohm.checks import require
from everyohm.groups import groups_of
from everyohm.netnodes import count_of_nodes, gate_tanks
from everyohm.starts import has_known_gates
from everyohm.statekinds import is_feeds, is_state
from everyohm.turning import begun_with, require_turn, spread_from, turned


def flickers(net, state, feeds):
    """Return the lot of the tanks that are known, the same at both ends of the turn, and 2 in between."""
    require_turn(net, state, feeds)
    first, states = turned(net, state, feeds)
    old, middle, new = state[1], first[1], states[-1][1]
    return tuple(
        tank for tank in range(len(net[0]), count_of_nodes(net))
        if middle[tank] == 2 and old[tank] == new[tank] != 2
    )


def shown_tanks(net, state, feeds):
    """Return the lot of the gate tanks that are known before the turn and 2 in its spread."""
    require_turn(net, state, feeds)
    return shown_by(net, state, feeds)


def shown_by(net, state, feeds):
    """Return what shown_tanks returns, for arguments that are known to fit."""
    old = state[1]
    middle = spread_from(net, begun_with(state, feeds))[1]
    return tuple(tank for tank in gate_tanks(net) if old[tank] != 2 and middle[tank] == 2)


def is_single(net, state, feeds):
    """Return whether no group has two shown tanks in the turn from a known state."""
    require(is_state(net, state) and has_known_gates(net, state), "state")
    require(is_feeds(net, feeds), "feeds")
    return is_single_by(net, state, feeds)


def is_single_by(net, state, feeds):
    """Return what is_single returns, for arguments that are known to fit."""
    shown = shown_by(net, state, feeds)
    return all(len([tank for tank in group if tank in shown]) <= 1 for group in groups_of(net))
