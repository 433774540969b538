"""Whether a world fits what is known of positions and of held values."""

from everyohm.checks import require
from everyohm.kinds import is_quotient
from everyohm.quotients import NOUGHT
from everyohm.statekinds import require_view
from everyohm.worldkinds import bounds_of, is_world


def world_fault(net, positions, held, world, slack):
    """Return None if the world fits with the slack, otherwise its first fault: a word and a place."""
    require_view(net, positions, held)
    require(is_world(net, world), "world")
    require(is_slack(slack), "slack")
    return fault_of(net, positions, held, world, slack)


def is_slack(thing):
    """Return whether thing is a quotient, not below nought."""
    return is_quotient(thing) and thing[0] >= 0


def fault_of(net, positions, held, world, slack):
    """Return what world_fault returns, for arguments that are known to fit."""
    base, flows, rooms, charges = world
    rows = (
        ("flow", flow_fits(net, positions, base, flows)),
        ("room", room_fits(net, base, rooms)),
        ("charge", charge_fits(net, held, charges, slack)),
    )
    for word, fits in rows:
        if False in fits:
            return (word, fits.index(False))
    return None


def flow_fits(net, positions, base, flows):
    """Return for each switch whether its flow fits its position."""
    fits = []
    for switch, position, flow in zip(net[2], positions, flows):
        least, greatest = bounds_of(base, switch[1])
        fits.append(is_within(flow, (0, least, 0)[position], (0, greatest, greatest)[position]))
    return fits


def room_fits(net, base, rooms):
    """Return for each tank whether its room is within its bounds."""
    fits = []
    for (_, size), room in zip(net[1], rooms):
        least, greatest = bounds_of(base, size)
        fits.append(is_within(room, least, greatest))
    return fits


def charge_fits(net, held, charges, slack):
    """Return for each node whether its charge fits what it is held; feeds have no slack."""
    slacks = (NOUGHT,) * len(net[0]) + (slack,) * len(net[1])
    return [is_near(charge, value, room) for charge, value, room in zip(charges, held, slacks)]


def is_within(quotient, least, greatest):
    """Return whether a quotient is from one integer to another one."""
    top, bottom = quotient
    return least * bottom <= top <= greatest * bottom


def is_near(charge, value, slack):
    """Return whether a charge differs from a known value by at most the slack."""
    if value == 2:
        return True
    top, bottom = charge
    return abs(top - value * bottom) * slack[1] <= slack[0] * bottom
