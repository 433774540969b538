"""Letting a state fall: one position or held value becomes what it should be."""

from everyohm.checks import require
from everyohm.raising import is_item, pulls, with_item
from everyohm.statekinds import is_state


def can_fall(net, state):
    """Return all items that are not their reading or response."""
    require(is_state(net, state), "state")
    return tuple(pulls(net, state))


def fallen(net, state, item):
    """Return the state with the reading or response in the place of one item."""
    require(is_state(net, state), "state")
    found = pulls(net, state)
    require(is_item(item) and item in found, "item")
    return with_item(state, item, found[item])
