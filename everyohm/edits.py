"""Edits: each changes one thing in a net and tells where its switches went."""

from everyohm.bookkinds import is_kind, is_size, is_strength
from everyohm.checks import require
from everyohm.errors import NameTwice, NoSuchName, StillUsed
from everyohm.kinds import is_flat_name
from everyohm.netnodes import gate_tanks, is_switch_of, names_of, number_of, switches_at


def with_feed(net, name):
    """Return the net with one more feed."""
    require(is_flat_name(name), "name")
    require_new(net, name)
    feeds, tanks, switches = net
    numbers = [node if node < len(feeds) else node + 1 for node in range(len(feeds) + len(tanks))]
    return (feeds + (name,), tanks, renumbered(switches, numbers)), same_places(net)


def with_tank(net, name, size):
    """Return the net with one more tank."""
    require(is_flat_name(name), "name")
    require(is_size(size), "size")
    require_new(net, name)
    feeds, tanks, switches = net
    return (feeds, tanks + ((name, size),), switches), same_places(net)


def without_tank(net, name):
    """Return the net without a tank, which must be no gate and no end."""
    require(is_flat_name(name), "name")
    tank = tank_named(net, name)
    if tank in gate_tanks(net) or switches_at(net, tank) != ():
        raise StillUsed(name)
    feeds, tanks, switches = net
    numbers = [node if node < tank else node - 1 for node in range(len(feeds) + len(tanks))]
    place = tank - len(feeds)
    return (feeds, tanks[:place] + tanks[place + 1:], renumbered(switches, numbers)), same_places(net)


def with_switch(net, kind, strength, gate, left, right):
    """Return the net with one more switch; gate, left and right are names."""
    require(is_kind(kind), "kind")
    require(is_strength(strength), "strength")
    require(gate is None if kind == "tie" else is_flat_name(gate), "gate")
    require(is_flat_name(left), "left")
    require(is_flat_name(right) and right != left, "right")
    feeds, tanks, switches = net
    gate_node = -1 if gate is None else number_of(net, gate)
    switch = (kind, strength, gate_node, number_of(net, left), number_of(net, right))
    return (feeds, tanks, switches + (switch,)), same_places(net)


def without_switch(net, switch):
    """Return the net without a switch."""
    require(is_switch_of(net, switch), "switch")
    feeds, tanks, switches = net
    behind = tuple(range(switch, len(switches) - 1))
    places = tuple(range(switch)) + (-1,) + behind
    return (feeds, tanks, switches[:switch] + switches[switch + 1:]), places


def with_strength(net, switch, strength):
    """Return the net in which a switch has another strength."""
    require(is_switch_of(net, switch), "switch")
    require(is_strength(strength), "strength")
    feeds, tanks, switches = net
    kind, _, gate, left, right = switches[switch]
    changed = (kind, strength, gate, left, right)
    return (feeds, tanks, replaced(switches, switch, changed)), same_places(net)


def with_size(net, name, size):
    """Return the net in which a tank has another size."""
    require(is_flat_name(name), "name")
    require(is_size(size), "size")
    feeds, tanks, switches = net
    place = tank_named(net, name) - len(feeds)
    return (feeds, replaced(tanks, place, (name, size)), switches), same_places(net)


def require_new(net, name):
    """Raise NameTwice if a node has the name."""
    if name in names_of(net):
        raise NameTwice(name)


def tank_named(net, name):
    """Return the tank with a name, or raise NoSuchName."""
    tank = number_of(net, name)
    if tank < len(net[0]):
        raise NoSuchName(name)
    return tank


def same_places(net):
    """Return the place of each switch, where all stay where they are."""
    return tuple(range(len(net[2])))


def replaced(parts, place, part):
    """Return the tuple parts with another part at a place."""
    return parts[:place] + (part,) + parts[place + 1:]


def renumbered(switches, numbers):
    """Return the switches with the new number of each node."""
    return tuple(with_numbers(switch, numbers) for switch in switches)


def with_numbers(switch, numbers):
    """Return a switch with the new number of each node; a tie has no gate."""
    kind, strength, gate, left, right = switch
    new_gate = -1 if gate == -1 else numbers[gate]
    return (kind, strength, new_gate, numbers[left], numbers[right])
