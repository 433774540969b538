"""Carrying a state from one net over to a changed one."""

from everyohm.checks import require
from everyohm.kinds import is_between
from everyohm.netkinds import is_net
from everyohm.netnodes import names_of
from everyohm.starts import readings_by
from everyohm.statekinds import is_state


def carried(net, state, other, places):
    """Return the state of other in which all that stayed is as it was."""
    require(is_state(net, state), "state")
    require(is_net(other), "other")
    require(are_places(places, len(net[2]), len(other[2])), "places")
    positions, held = state
    values = dict(zip(names_of(net), held))
    other_held = tuple(values.get(name, 2) for name in names_of(other))
    other_positions = list(readings_by(other, other_held))
    for switch, place in enumerate(places):
        if place >= 0 and are_of_a_kind(net, switch, other, place):
            other_positions[place] = positions[switch]
    return tuple(other_positions), other_held


def are_places(thing, many, many_others):
    """Return whether thing has for each of many switches -1 or its own place."""
    if not isinstance(thing, tuple) or len(thing) != many:
        return False
    if not all(is_between(place, -1, many_others - 1) for place in thing):
        return False
    kept = [place for place in thing if place >= 0]
    return len(set(kept)) == len(kept)


def are_of_a_kind(net, switch, other, place):
    """Return whether two switches are of one kind, with gates of one name."""
    one, another = net[2][switch], other[2][place]
    if one[0] != another[0]:
        return False
    return one[0] == "tie" or names_of(net)[one[2]] == names_of(other)[another[2]]
