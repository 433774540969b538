"""Worlds that show a value at a tank."""

from everyohm.checks import require
from everyohm.kinds import is_known
from everyohm.netnodes import is_tank_of
from everyohm.roads import road_by
from everyohm.statekinds import require_view
from everyohm.worldkinds import bounds_of, is_base


def showing_world(net, positions, held, value, tank, base):
    """Return a world that fits and shows the value at the tank, or None if none can."""
    require_view(net, positions, held)
    require(is_known(value), "value")
    require(is_tank_of(net, tank), "tank")
    require(is_base(base), "base")
    return world_by_road(net, positions, held, value, tank, base)


def two_worlds(net, positions, held, tank, base):
    """Return worlds that show 0 and 1 at the tank, or None if its response is known."""
    require_view(net, positions, held)
    require(is_tank_of(net, tank), "tank")
    require(is_base(base), "base")
    return worlds_by_roads(net, positions, held, tank, base)


def worlds_by_roads(net, positions, held, tank, base):
    """Return what two_worlds returns, for arguments that are known to fit."""
    zero = world_by_road(net, positions, held, 0, tank, base)
    one = world_by_road(net, positions, held, 1, tank, base)
    return None if zero is None or one is None else (zero, one)


def world_by_road(net, positions, held, value, tank, base):
    """Return the world in which one road to the tank has the greatest flows and root.

    All else is as little as it may be. No other road to a node of this road
    has a greater rank there, so what pulls against it is less by the base.
    """
    road = road_by(net, positions, held, value, tank)
    if road is None:
        return None
    root, switches = road
    return (
        base,
        road_flows(net, positions, base, switches),
        road_rooms(net, base, root),
        charges_with(held, value),
    )


def road_flows(net, positions, base, switches):
    """Return the greatest flows for the switches of a road, and the least for all others."""
    flows = []
    for switch, (_, strength, _, _, _) in enumerate(net[2]):
        least, greatest = bounds_of(base, strength)
        if switch in switches:
            flows.append((greatest, 1))
        else:
            flows.append((least if positions[switch] == 1 else 0, 1))
    return tuple(flows)


def road_rooms(net, base, root):
    """Return the greatest room for the root of a road, and the least for all other tanks."""
    rooms = []
    for tank, (_, size) in enumerate(net[1], start=len(net[0])):
        least, greatest = bounds_of(base, size)
        rooms.append((greatest if tank == root else least, 1))
    return tuple(rooms)


def charges_with(held, value):
    """Return the charges that nodes are held, with a known value for each 2."""
    return tuple((value if one == 2 else one, 1) for one in held)
