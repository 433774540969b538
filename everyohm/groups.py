"""Groups: tanks that hang together by switches, whatever their positions."""

from everyohm.checks import require
from everyohm.kinds import is_lot
from everyohm.netnodes import is_tank_of


def groups_of(net):
    """Return all groups, by least tank."""
    return lots_of(neighbours_of(net, net[2]))


def lots_of(neighbours):
    """Return the lots of the tanks that hang together, by least tank."""
    lots = []
    taken = set()
    for tank in neighbours:
        if tank not in taken:
            lot = reached_from(tank, neighbours)
            lots.append(lot)
            for member in lot:
                taken.add(member)
    return tuple(lots)


def neighbours_of(net, switches):
    """Return a dict with the tanks that share one of the switches with each tank."""
    feeds = len(net[0])
    neighbours = {feeds + place: [] for place in range(len(net[1]))}
    for _, _, _, left, right in switches:
        if left >= feeds and right >= feeds:
            neighbours[left].append(right)
            neighbours[right].append(left)
    return neighbours


def reached_from(tank, neighbours):
    """Return the lot of the tanks that hang together with a tank."""
    found = {tank: True}
    waiting = [tank]
    while waiting:
        member = waiting.pop()
        for other in neighbours[member]:
            if other not in found:
                found[other] = True
                waiting.append(other)
    return tuple(sorted(found))


def group_of(net, tank):
    """Return the group that has the tank."""
    require(is_tank_of(net, tank), "tank")
    return reached_from(tank, neighbours_of(net, net[2]))


def is_watched(net, thing):
    """Return whether thing is a lot of tanks of the net."""
    return is_lot(thing) and all(is_tank_of(net, tank) for tank in thing)


def cone_of(net, watched):
    """Return the lot of the tanks of the groups that the watched ones need."""
    require(is_watched(net, watched), "watched")
    neighbours = neighbours_of(net, net[2])
    cone = {}
    waiting = list(watched)
    while waiting:
        tank = waiting.pop()
        if tank not in cone:
            cone[tank] = True
            waiting.extend(neighbours[tank])
            waiting.extend(gates_at(net, tank))
    return tuple(sorted(cone))


def gates_at(net, tank):
    """Return the tanks that are gates of switches with an end at a tank."""
    feeds = len(net[0])
    return [switch[2] for switch in net[2] if tank in switch[3:] and switch[2] >= feeds]
