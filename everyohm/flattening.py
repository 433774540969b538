"""Making a net from a book, by walking its modules."""

from everyohm.bookkinds import module_named
from everyohm.bookwalks import require_walkable
from everyohm.checks import require
from everyohm.drafts import Draft
from everyohm.errors import NotFlat
from everyohm.kinds import LONGEST_FLAT_NAME, is_name
from everyohm.scopes import Scope, number_for, numbers_of

MOST_PASSES = 64
GREATEST_INDEX = 999999


def flat(book, top):
    """Return the net for the module called top."""
    require(is_name(top), "top")
    require_walkable(book, top)
    _, _, ports, items = module_named(book, top)
    many_inputs = sum(max(1, port[3]) for port in ports if port[0] == "in")
    draft = Draft(book, 2 + many_inputs)
    scope = Scope("")
    for place, port in enumerate(ports):
        make_port(draft, scope, port, place)
    walk_items(draft, scope, items, (), ())
    return draft.net()


def make_port(draft, scope, port, place):
    """Make the nodes of a port of the top module."""
    word, size, name, width = port
    scope.own(name, port_owner(place))
    names = wire_names(name, width)
    nodes = draft.add_feeds(names) if word == "in" else draft.add_tanks(names, size)
    draft.require_room(name)
    scope.put(name, (), width, nodes)


def port_owner(place):
    """Return the owner of a port's name; those of items are their paths."""
    return (-1, place)


def wire_names(name, width):
    """Return the flat names of the wires behind a flat name."""
    if width == 0:
        return [name]
    return [f"{name}[{place}]" for place in range(width)]


def walk_items(draft, scope, items, path, loops):
    """Walk items; path tells where they stand, loops what the names stand for."""
    for place, item in enumerate(items):
        walker = WALKERS[item[0]]
        walker(draft, scope, item, path + (place,), loops)


def walk_tank(draft, scope, tank, path, loops):
    """Make the nodes of a tank."""
    _, size, name, width = tank
    own_name(scope, name, path, loops)
    names = wire_names(flat_name_of(scope, name, loops), width)
    if any(len(wire) > LONGEST_FLAT_NAME for wire in names):
        raise NotFlat("long", name)
    nodes = draft.add_tanks(names, size)
    draft.require_room(name)
    scope.put(name, numbers_of(loops), width, nodes)


def own_name(scope, name, path, loops):
    """Give a name to an item; NotFlat if it, or a number in it, cannot stand."""
    scope.own(name, path)
    if any(not 0 <= number <= GREATEST_INDEX for number in numbers_of(loops)):
        raise NotFlat("index", name)


def flat_name_of(scope, name, loops):
    """Return the flat name of an item, with the numbers of the loops around it."""
    return scope.prefix + name + "".join(f"[{number}]" for number in numbers_of(loops))


def walk_switch(draft, scope, switch, _, loops):
    """Make a switch."""
    kind, strength, gate, left, right = switch[1:]
    gate_node = -1 if gate is None else scope.node_for(gate, loops)
    left_node = scope.node_for(left, loops)
    right_node = scope.node_for(right, loops)
    if left_node == right_node:
        raise NotFlat("ends", draft.node_name(left_node))
    draft.add_switch((kind, strength, gate_node, left_node, right_node))


def walk_use(draft, scope, use, path, loops):
    """Walk the module that is used, with the terms as its ports."""
    _, module_name, name, terms = use
    if module_name not in draft.modules:
        raise NotFlat("module", module_name)
    _, _, ports, items = draft.modules[module_name]
    if len(terms) != len(ports):
        raise NotFlat("ports", name)
    wires = [scope.nodes_for(term, port[3], loops) for term, port in zip(terms, ports)]
    own_name(scope, name, path, loops)
    inner = Scope(flat_name_of(scope, name, loops) + ".")
    for place, port in enumerate(ports):
        inner.own(port[2], port_owner(place))
        inner.put(port[2], (), port[3], wires[place])
    walk_items(draft, inner, items, (), ())


def walk_loop(draft, scope, loop, path, loops):
    """Walk the items of a for, in a pass for each of its numbers."""
    _, name, low, high, items = loop
    first = number_for(low, loops, name)
    last = number_for(high, loops, name)
    if last - first >= MOST_PASSES:
        raise NotFlat("loop", name)
    for number in range(first, last + 1):
        walk_items(draft, scope, items, path, loops + ((name, number),))


WALKERS = {"tank": walk_tank, "switch": walk_switch, "use": walk_use, "for": walk_loop}
