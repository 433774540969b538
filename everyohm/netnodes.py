"""The nodes of a net: their names, their switches, what is a gate."""

from everyohm.checks import require
from everyohm.errors import NoSuchName
from everyohm.kinds import is_between, is_flat_name


def count_of_nodes(net):
    """Return how many nodes a net has."""
    return len(net[0]) + len(net[1])


def is_node(net, thing):
    """Return whether thing is the number of a node."""
    return is_between(thing, 0, count_of_nodes(net) - 1)


def is_tank_of(net, thing):
    """Return whether thing is the number of a node that is a tank."""
    return is_between(thing, len(net[0]), count_of_nodes(net) - 1)


def is_switch_of(net, thing):
    """Return whether thing is the place of a switch."""
    return is_between(thing, 0, len(net[2]) - 1)


def other_end(net, switch, node):
    """Return the end of a switch across from a node, or -1 if the node is no end."""
    _, _, _, left, right = net[2][switch]
    if node == left:
        return right
    return left if node == right else -1


def names_of(net):
    """Return the flat names of all nodes, by number."""
    return net[0] + tuple(name for name, _ in net[1])


def number_of(net, name):
    """Return the node with a name, or raise NoSuchName."""
    names = names_of(net)
    if name not in names:
        raise NoSuchName(name)
    return names.index(name)


def name_of(net, node):
    """Return the flat name of a node."""
    require(is_node(net, node), "node")
    return names_of(net)[node]


def node_of(net, name):
    """Return the node with a flat name."""
    require(is_flat_name(name), "name")
    return number_of(net, name)


def size_of(net, tank):
    """Return the size of a tank."""
    require(is_tank_of(net, tank), "tank")
    return net[1][tank - len(net[0])][1]


def switches_at(net, node):
    """Return the lot of the switches that have the node as an end."""
    require(is_node(net, node), "node")
    return tuple(place for place, switch in enumerate(net[2]) if node in switch[3:])


def switches_by(net, node):
    """Return the lot of the switches that have the node as their gate."""
    require(is_node(net, node), "node")
    return tuple(place for place, switch in enumerate(net[2]) if switch[2] == node)


def gate_tanks(net):
    """Return the lot of the tanks that are gates."""
    feeds = len(net[0])
    return tuple(sorted({switch[2] for switch in net[2] if switch[2] >= feeds}))
