"""The parts of a world: tanks that hang together by flows."""

from everyohm.checks import require
from everyohm.groups import lots_of, neighbours_of
from everyohm.worldkinds import are_flows


def parts_of(net, flows):
    """Return the parts by least tank: the tanks of each, and the feeds that touch it."""
    require(are_flows(net, flows), "flows")
    return parts_by(net, flows)


def parts_by(net, flows):
    """Return the parts, for what are known to be flows of the net."""
    flowing = [switch for switch, flow in zip(net[2], flows) if flow[0] > 0]
    lots = lots_of(neighbours_of(net, flowing))
    return tuple((tanks, feeds_at(net, flowing, tanks)) for tanks in lots)


def part_with(net, flows, tank):
    """Return the part that has a tank."""
    return [part for part in parts_by(net, flows) if tank in part[0]][0]


def feeds_at(net, flowing, tanks):
    """Return the lot of the feeds from which a flow leads to one of the tanks."""
    feeds = len(net[0])
    found = set()
    for _, _, _, left, right in flowing:
        for one, other in ((left, right), (right, left)):
            if one < feeds and other in tanks:
                found.add(one)
    return tuple(sorted(found))
