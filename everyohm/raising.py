"""Raising a state: one position or held value is joined with what it should be."""

from everyohm.checks import require
from everyohm.edits import replaced
from everyohm.kinds import is_integer
from everyohm.responses import responses_of
from everyohm.starts import readings_by
from everyohm.statekinds import is_state


def can_raise(net, state):
    """Return all items that change if they are joined with their reading or response."""
    require(is_state(net, state), "state")
    return items_to_raise(net, state)


def items_to_raise(net, state):
    """Return what can_raise returns, for what is known to be a state."""
    # What is 2 stays 2, whatever it is joined with.
    return tuple(item for item in pulls(net, state) if value_of(state, item) != 2)


def raised(net, state, item):
    """Return the state with one item joined."""
    require(is_state(net, state), "state")
    require(is_item(item) and item in items_to_raise(net, state), "item")
    return with_item(state, item, 2)


def pulls(net, state):
    """Return a dict with each item that is not its reading or response, and what this is."""
    positions, held = state
    found = {}
    for place, reading in enumerate(readings_by(net, held)):
        if positions[place] != reading:
            found["switch", place] = reading
    for node, told in enumerate(responses_of(net, positions, held)):
        if held[node] != told:
            found["tank", node] = told
    return found


def value_of(state, item):
    """Return the position or the held value that an item names."""
    word, place = item
    return state[0][place] if word == "switch" else state[1][place]


def is_item(thing):
    """Return whether thing is a pair of a string and an integer."""
    if not isinstance(thing, tuple) or len(thing) != 2:
        return False
    return isinstance(thing[0], str) and is_integer(thing[1])


def with_item(state, item, value):
    """Return the state with another value for one item."""
    positions, held = state
    word, place = item
    if word == "switch":
        return replaced(positions, place, value), held
    return positions, replaced(held, place, value)
