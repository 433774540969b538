"""Papers that show where a turn leads: the states of its chain, with tables."""

from everyohm.tablepapers import tables_for
from everyohm.turning import require_turn, turned


def turn_paper(net, state, feeds):
    """Return each state of the turn's chain with tables that show it."""
    require_turn(net, state, feeds)
    return turn_paper_of(net, state, feeds)


def turn_paper_of(net, state, feeds):
    """Return what turn_paper returns, for arguments that are known to fit."""
    first, states = turned(net, state, feeds)
    positions, held = first
    pairs = [(first, tables_for(net, positions, held))]
    for before, behind in zip(states, states[1:]):
        # A whole step responds to the new positions by the values held before it.
        pairs.append((behind, tables_for(net, behind[0], before[1])))
    return tuple(pairs)
