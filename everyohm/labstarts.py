"""From what labs can be made."""

from everyohm.quotients import NOUGHT, ONE
from everyohm.worldfits import is_within, room_fits
from everyohm.worldkinds import are_charges, are_flows, are_rooms, bounds_of, is_base


def is_start(net, thing):
    """Return whether thing is a quintuple from which, with the net, a lab can be made."""
    if not isinstance(thing, tuple) or len(thing) != 5:
        return False
    base, closed, rooms, volts, flows = thing
    return start_fault(net, base, closed, rooms, volts, flows) == ""


def start_fault(net, base, closed, rooms, volts, flows):
    """Return the name of the first of these that is not as a lab needs it, or an empty one."""
    if not is_base(base):
        return "base"
    if not are_closed_flows(net, base, closed):
        return "closed"
    if not are_rooms(net, rooms) or False in room_fits(net, base, rooms):
        return "rooms"
    if not are_charges(net, volts) or volts[:2] != (NOUGHT, ONE):
        return "volts"
    return "" if are_open_flows(net, base, closed, flows) else "flows"


def are_closed_flows(net, base, thing):
    """Return whether thing has for each switch a flow that it can have closed."""
    if not are_flows(net, thing):
        return False
    for switch, flow in zip(net[2], thing):
        least, greatest = bounds_of(base, switch[1])
        if not is_within(flow, least, greatest):
            return False
    return True


def are_open_flows(net, base, closed, thing):
    """Return whether thing has for each switch a flow that it can have now; that of a tie is its closed one."""
    if not are_flows(net, thing):
        return False
    for switch, whole, flow in zip(net[2], closed, thing):
        _, greatest = bounds_of(base, switch[1])
        if not is_within(flow, 0, greatest) or (switch[0] == "tie" and flow != whole):
            return False
    return True
