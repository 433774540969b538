"""What the names of one walked module stand for."""

from everyohm.errors import NoSuchName, NotFlat, TooMany
from everyohm.exprs import worth_by

RAILS = ("low", "high")


class Wires:
    """The nodes of a port or a tank, by the numbers behind its name."""

    def __init__(self, is_bus, numbers):
        self.is_bus = is_bus
        self.numbers = numbers
        self.nodes = {}


class Scope:
    """The names that a walked module has made so far."""

    def __init__(self, prefix):
        self.prefix = prefix
        self.owners = {}
        self.wires = {}

    def own(self, name, owner):
        """Give the name to its owner; NotFlat if another one has it."""
        if self.owners.setdefault(name, owner) != owner:
            raise NotFlat("twice", name)

    def put_bus(self, name, nodes):
        """Let the name stand for a bus with these nodes."""
        bus = Wires(True, 1)
        bus.nodes = {(place,): node for place, node in enumerate(nodes)}
        self.wires[name] = bus

    def put_wire(self, name, numbers, node):
        """Let the name, with the numbers of the loops around, stand for a node."""
        if name not in self.wires:
            self.wires[name] = Wires(False, len(numbers))
        self.wires[name].nodes[numbers] = node

    def put(self, name, numbers, width, nodes):
        """Let the name stand for the nodes of a wire, or of a bus."""
        if width == 0:
            self.put_wire(name, numbers, nodes[0])
        else:
            self.put_bus(name, nodes)

    def wires_named(self, name):
        """Return the wires of a name; NotFlat if no port or tank has it so far."""
        if name not in self.wires:
            raise NotFlat("name", name)
        return self.wires[name]

    def nodes_for(self, term, width, loops):
        """Return the nodes of a term at a port of this width."""
        if width == 0:
            return [self.node_for(term, loops)]
        if term[0] == "rail":
            raise NotFlat("bus", RAILS[term[1]])
        name = term[1]
        wires = self.wires_named(name)
        if term[0] != "wire" or not wires.is_bus:
            raise NotFlat("bus", name)
        if len(wires.nodes) != width:
            raise NotFlat("width", name)
        return list(wires.nodes.values())

    def node_for(self, term, loops):
        """Return the one node of a term."""
        if term[0] == "rail":
            return term[1]
        name = term[1]
        wires = self.wires_named(name)
        if not can_be_one(wires, term, loops):
            raise NotFlat("bus", name)
        numbers = numbers_of(loops)[:wires.numbers]
        if term[0] == "item":
            numbers = numbers[:wires.numbers - 1] + (number_for(term[2], loops, name),)
        if numbers not in wires.nodes:
            raise NotFlat("index", name)
        return wires.nodes[numbers]


def can_be_one(wires, term, loops):
    """Return whether a term of this form can be one node of the wires."""
    if term[0] == "item":
        return 1 <= wires.numbers <= len(loops) + 1
    return not wires.is_bus and wires.numbers <= len(loops)


def numbers_of(loops):
    """Return the numbers for which the names of the loops stand, outermost first."""
    return tuple(number for _, number in loops)


def number_for(expr, loops, name):
    """Return the worth of an expression; NotFlat, perhaps with name, if none."""
    try:
        # Of two loops with one name, dict keeps the later one, the inner.
        return worth_by(expr, dict(loops))
    except NoSuchName as error:
        raise NotFlat("name", error.name)
    except TooMany:
        raise NotFlat("big", name)
