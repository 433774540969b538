"""Turns: what all tanks and switches do when feeds get new values."""

from everyohm.checks import require
from everyohm.responses import responses_of
from everyohm.starts import readings_by
from everyohm.statekinds import is_feeds, is_state
from everyohm.values import is_above_all, joined_all


def begun(net, state, feeds):
    """Return the state with the new feed values, with which the spread begins."""
    require_turn(net, state, feeds)
    return begun_with(state, feeds)


def require_turn(net, state, feeds):
    """Raise NotUsable unless a turn can be made from the state with these feed values."""
    require(is_state(net, state), "state")
    require(is_feeds(net, feeds), "feeds")


def begun_with(state, feeds):
    """Return a state with other feed values."""
    positions, held = state
    return positions, feeds + held[len(feeds):]


def spread(net, state, feeds):
    """Return the spread of the turn."""
    require_turn(net, state, feeds)
    return spread_from(net, begun_with(state, feeds))


def spread_from(net, state):
    """Return the least state above this one that is above its readings and responses."""
    before = ()
    while state != before:
        before = state
        positions = joined_all(before[0], readings_by(net, before[1]))
        held = joined_all(before[1], responses_of(net, positions, before[1]))
        state = (positions, held)
    return state


def chain(net, state):
    """Return the chain that begins with a spread."""
    require(is_state(net, state) and is_spread(net, state), "state")
    return chain_from(net, state)


def is_spread(net, state):
    """Return whether a state is above its readings and its responses."""
    positions, held = state
    if not is_above_all(positions, readings_by(net, held)):
        return False
    return is_above_all(held, responses_of(net, positions, held))


def chain_from(net, state):
    """Return the states behind whole steps, each unlike the one before, from a spread on."""
    states = [state]
    behind = stepped(net, state)
    while behind != states[-1]:
        states.append(behind)
        behind = stepped(net, behind)
    return tuple(states)


def stepped(net, state):
    """Return the state behind a whole step: all positions, then all tanks."""
    held = state[1]
    positions = readings_by(net, held)
    return positions, responses_of(net, positions, held)


def turn(net, state, feeds):
    """Return the spread of the turn, and its chain."""
    require_turn(net, state, feeds)
    return turned(net, state, feeds)


def turned(net, state, feeds):
    """Return what turn returns, for arguments that are known to fit."""
    first = spread_from(net, begun_with(state, feeds))
    return first, chain_from(net, first)


def after(net, state, feeds):
    """Return the new state of the turn."""
    require_turn(net, state, feeds)
    return state_after(net, state, feeds)


def state_after(net, state, feeds):
    """Return what after returns, for arguments that are known to fit."""
    return turned(net, state, feeds)[1][-1]


def after_all(net, state, sequence):
    """Return the new state of the last of several turns."""
    require(is_state(net, state), "state")
    require(are_all_feeds(net, sequence), "sequence")
    last = state
    for feeds in sequence:
        last = state_after(net, last, feeds)
    return last


def are_all_feeds(net, thing):
    """Return whether thing is a tuple of feed values for one turn each."""
    return isinstance(thing, tuple) and all(is_feeds(net, feeds) for feeds in thing)
