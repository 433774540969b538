"""Worlds of a net, the bounds of their numbers, and how much they may leak."""

from everyohm.bookkinds import is_size, is_strength
from everyohm.checks import require
from everyohm.kinds import is_integer, is_number, is_quotient
from everyohm.netnodes import count_of_nodes
from everyohm.quotients import is_part, lowest, power

LEAST_BASE = 2


def is_world(net, thing):
    """Return whether thing is a world of the net."""
    if not isinstance(thing, tuple) or len(thing) != 4:
        return False
    base, flows, rooms, charges = thing
    if not is_base(base) or not are_flows(net, flows):
        return False
    return are_rooms(net, rooms) and are_charges(net, charges)


def is_base(thing):
    """Return whether thing can be the base of a world."""
    return is_integer(thing) and thing >= LEAST_BASE


def are_flows(net, thing):
    """Return whether thing has a quotient for each switch, not below nought."""
    if not isinstance(thing, tuple) or len(thing) != len(net[2]):
        return False
    return all(is_quotient(flow) and flow[0] >= 0 for flow in thing)


def are_rooms(net, thing):
    """Return whether thing has a quotient above nought for each tank."""
    if not isinstance(thing, tuple) or len(thing) != len(net[1]):
        return False
    return all(is_quotient(room) and room[0] > 0 for room in thing)


def are_charges(net, thing):
    """Return whether thing has a quotient from nought to one for each node."""
    if not isinstance(thing, tuple) or len(thing) != count_of_nodes(net):
        return False
    return all(is_part(charge) for charge in thing)


def flow_bounds(base, strength):
    """Return the least and the greatest flow of closed switches of a strength."""
    require(is_base(base), "base")
    require(is_strength(strength), "strength")
    return bounds_of(base, strength)


def room_bounds(base, size):
    """Return the least and the greatest room of tanks of a size."""
    require(is_base(base), "base")
    require(is_size(size), "size")
    return bounds_of(base, size)


def bounds_of(base, order):
    """Return the bounds for a strength or a size."""
    least = power(base, 2 * order)
    return (least, least * base)


def leak_of(net):
    """Return the leak of a net."""
    tanks, switches = len(net[1]), len(net[2])
    smaller = min(tanks, switches // 2)
    return smaller * (switches - smaller)


def spill_of(net):
    """Return the spill of a net."""
    tanks, switches = len(net[1]), len(net[2])
    return min(tanks - 1, switches) if tanks > 0 else 0


def lost(net, adrift):
    """Return the leak, and the spill once for each settling adrift."""
    return leak_of(net) + adrift * spill_of(net)


def need(net, adrift):
    """Return the base that so many settlings adrift need."""
    require(is_number(adrift), "adrift")
    return needed_base(net, adrift)


def needed_base(net, adrift):
    """Return the base that so many settlings need, for what is known to be a number."""
    return max(LEAST_BASE, 4 * lost(net, adrift))


def slack_after(net, base, adrift):
    """Return the slack of so many settlings adrift."""
    require(is_base(base), "base")
    require(is_number(adrift), "adrift")
    return lowest(lost(net, adrift), base)
