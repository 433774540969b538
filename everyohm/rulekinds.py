"""Rules that make nets shorter, and when they fit."""

from everyohm.checks import require
from everyohm.groups import cone_of, is_watched
from everyohm.netnodes import gate_tanks, is_switch_of, is_tank_of, other_end, switches_at
from everyohm.ranks import rank_of


def is_rule(net, watched, thing):
    """Return whether thing is a rule that fits."""
    require(is_watched(net, watched), "watched")
    return does_fit(net, watched, thing)


def does_fit(net, watched, thing):
    """Return what is_rule returns, for what are known to be watched tanks."""
    if not isinstance(thing, tuple) or len(thing) == 0 or not isinstance(thing[0], str):
        return False
    if thing[0] not in FITTING:
        return False
    fits = FITTING[thing[0]]
    return fits(net, watched, thing[1:])


def bridge_fits(net, _, parts):
    """Return whether parts are a switch between two feeds."""
    if len(parts) != 1 or not is_switch_of(net, parts[0]):
        return False
    return max(ends_of(net, parts[0])) < len(net[0])


def ends_of(net, switch):
    """Return the two ends of a switch, the smaller number first."""
    _, _, _, left, right = net[2][switch]
    return (min(left, right), max(left, right))


def are_beside(net, parts):
    """Return whether parts are two switches with the same ends, the second one not stronger."""
    if len(parts) != 2 or not all(is_switch_of(net, switch) for switch in parts):
        return False
    one, other = parts
    return ends_of(net, one) == ends_of(net, other) and net[2][other][1] <= net[2][one][1]


def twin_fits(net, _, parts):
    """Return whether parts are two switches that move alike, side by side."""
    return are_beside(net, parts) and parts[0] != parts[1] and move_alike(net, parts[0], parts[1])


def move_alike(net, one, other):
    """Return whether two switches have the same kind and the same gate."""
    kind, _, gate, _, _ = net[2][one]
    other_kind, _, other_gate, _, _ = net[2][other]
    return kind == other_kind and gate == other_gate


def shadow_fits(net, _, parts):
    """Return whether parts are a tie and a switch that is none, side by side."""
    return are_beside(net, parts) and net[2][parts[0]][0] == "tie" and net[2][parts[1]][0] != "tie"


def is_free(net, watched, thing):
    """Return whether thing is a tank that is neither watched nor a gate."""
    return is_tank_of(net, thing) and thing not in watched and thing not in gate_tanks(net)


def is_greater(net, node, tank):
    """Return whether a node is greater than a tank: a feed, or a tank of greater size."""
    return rank_of(net, node) > rank_of(net, tank)


def stub_fits(net, watched, parts):
    """Return whether parts are a free tank that hangs on nothing, or on one greater node."""
    if len(parts) != 1 or not is_free(net, watched, parts[0]):
        return False
    nodes = nodes_beside(net, parts[0])
    return len(set(nodes)) <= 1 and all(is_greater(net, node, parts[0]) for node in nodes)


def nodes_beside(net, tank):
    """Return the node to which each switch of a tank leads."""
    return [other_end(net, switch, tank) for switch in switches_at(net, tank)]


def series_fits(net, watched, parts):
    """Return whether parts are a free tank between two switches that move alike, and these two."""
    if len(parts) != 3 or not is_free(net, watched, parts[0]):
        return False
    tank, one, other = parts
    if switches_at(net, tank) != (one, other) or not is_switch_of(net, one) or not is_switch_of(net, other):
        return False
    nodes = nodes_beside(net, tank)
    if nodes[0] == nodes[1] or not all(is_greater(net, node, tank) for node in nodes):
        return False
    return move_alike(net, one, other)


def unseen_fits(net, watched, parts):
    """Return whether there are no parts, and some tanks are not in the cone of the watched ones."""
    return parts == () and len(cone_of(net, watched)) < len(net[1])


FITTING = {
    "bridge": bridge_fits,
    "twin": twin_fits,
    "shadow": shadow_fits,
    "stub": stub_fits,
    "series": series_fits,
    "unseen": unseen_fits,
}
